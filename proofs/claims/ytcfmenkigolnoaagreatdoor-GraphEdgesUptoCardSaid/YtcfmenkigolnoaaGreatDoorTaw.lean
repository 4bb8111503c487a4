/- Texts of one kind, one behind the other: each says ahead of itself what it shows. -/
import Derived.Test.YtcfmenkigolnoaaGreatDoorTau
import Derived.Test.YtcfmenkigolnoaaGreatDoorTav
/- The law GraphEdges: each edge is among those that begin at its From, that end at its To, and that touch either; all edges that begin somewhere are all edges, each once. -/
namespace Go.Proofs.YtcfmenkigolnoaaGreatDoor
open Go.RowKit

theorem askHopV (W : World) (s : Nat) (g : GraphL) (h : StoreE W s g) (hg : GoodG g) (n d : Int) (hn : (Lit.int .i64 n).wf = true ∧ (Lit.int .i64 d).wf = true) (v : Value) (xs : List ByteArray) (hv : StrsAt W v xs) (hl : xs.length ≤ 2) :
    Calls Tryz.prog 23 #[.pointer (some ⟨s, 0, none⟩), .int .i64 n, .int .i64 d, v] W (LabPost W (hopsL g ⟨(n, d), hn⟩ xs)) := by
  refine (hopsAt _ s g h hg.de hg.ne ⟨(n, d), hn⟩ _ xs hv (by omega)).mono ?_
  rintro e w' ⟨R, rfl, hR, hb⟩
  obtain ⟨p, cap, rfl⟩ := own_slice hR
  exact ⟨p, cap, rfl, ints_of_own hR, hb⟩
theorem strs_nil (W : World) : StrsAt W (.slice none 0 0) [] := ⟨none, 0, rfl, fun h => absurd rfl h⟩
theorem store_wf {W : World} {s : Nat} {g : GraphL} (h : StoreE W s g) : ∀ a ∈ g.edges, (Lit.int .i64 a.src).wf = true ∧ (Lit.int .i64 a.dst).wf = true := fun a ha => by
  obtain ⟨_, _, _, _, _, _, _, _, q2, _⟩ := h.is
  exact ⟨(edge_wf q2 a ha).2.1, (edge_wf q2 a ha).2.2⟩
theorem text_x (t : ByteArray) : ¬ t = t ++ ⟨#[120]⟩ := fun h => by
  have q := congrArg ByteArray.size h
  rw [ByteArray.size_append] at q
  have e : (⟨#[120]⟩ : ByteArray).size = 1 := rfl
  omega
/-- What stands while the law's loops run: the store; the plain form, and its box. -/
structure RunE (s pb : Nat) (vn ve : Value) (g : GraphL) (W : World) : Prop where
  st : StoreE W s g
  box : W.heap[pb]? = some (.cells #[vn, ve] 25 (0, 0))
  ns : SliceE nodeE W (Old W) vn (plainG g).nodes
  es : SliceE edgeE W (Old W) ve (plainG g).edges
theorem RunE.below {W W' : World} {s gb : Nat} {vn ve : Value} {g : GraphL} (h : RunE s gb vn ve g W) (b : Below W.heap.size W W') : RunE s gb vn ve g W' :=
  ⟨h.st.below b, (b.block _ (lt_of_heap h.box)).trans h.box, h.ns.stays (old_below b), h.es.stays (old_below b)⟩
set_option maxHeartbeats 25600000 in
set_option maxRecDepth 200000 in
theorem edgesLaw (g : GraphL) (vn ve : Value) (W : World) (hG : Gd W) (hn : SliceE nodeE W (Old W) vn g.nodes) (he : SliceE edgeE W (Old W) ve g.edges) (hn1 : g.nodes.length ≤ 2097152) (hn2 : g.edges.length ≤ 2097152) :
    Calls Tryz.prog 6 #[.agg #[vn, ve]] W fun e w' => e = .returned (.bool true) ∧ Below W.heap.size W w' := by
  have hn0 := hn
  have he0 := he
  obtain ⟨p1, cap1, rfl⟩ := hn0.slice
  obtain ⟨p2, cap2, rfl⟩ := he0.slice
  obtain ⟨n1, hl1⟩ : ∃ n, n = g.nodes.length := ⟨_, rfl⟩
  obtain ⟨n2, hl2⟩ : ∃ n, n = g.edges.length := ⟨_, rfl⟩
  have HLT := Lib.hid (fun W' (b : Below W.heap.size W W') => lightAt g _ _ W' (hn.stays (old_below b)) (he.stays (old_below b)) hn1 hn2)
  have HLD := Lib.hid (fun W' (b : Below W.heap.size W W') => loadAt g _ _ W' (hG.below b) (hn.stays (old_below b)) (he.stays (old_below b)) hn1 hn2)
  have HWK := Lib.hid (fun W' (b : Below W.heap.size W W') => wakesAt W' (hG.below b))
  have HGD := Lib.hid hG
  rw [← hl1, ← hl2] at HLT HLD
  rw [← hl1] at hn hn1
  rw [← hl2] at he hn2
  rw [← hl1, ← hl2]
  have u1 : (W.alloc (.cells #[.slice p1 n1 cap1, .slice p2 n2 cap2] 25)).heap[W.heap.size]? = some (.cells #[.slice p1 n1 cap1, .slice p2 n2 cap2] 25 (0, 0)) := heap_new _ _ rfl
  have b0 := below1 W (.cells #[.slice p1 n1 cap1, .slice p2 n2 cap2] 25)
  obtain ⟨W0, hW0⟩ : ∃ W0, W0 = W.alloc (.cells #[.slice p1 n1 cap1, .slice p2 n2 cap2] 25) := ⟨_, rfl⟩
  rw [← hW0] at u1 b0
  have H0 := Lib.hid hW0
  have HL := Lib.hid (And.intro hl1 hl2)
  clear hn he hn0 he0 hG hW0 hl1 hl2
  go_enter Tryz.func6, Tryz.ntmps6
  go_upto_region 1 with fail
  rw [← H0.out]
  go_upto_if 20 with (first
    | ((with_reducible refine wpList_loadRowE (.tmp 1) W.heap.size 25 25 [.slice p1 n1 cap1, .slice p2 n2 cap2] 2 _ u1 rfl Tryz.underlying25 rfl size25 ?_ ?_ ?_ ?_); rfl; rfl; rfl)
    | (go_at_call 8; (with_reducible refine (HLT.out _ b0).mono ?_); rintro e w1 ⟨b, rfl, hb1⟩; have b1 := below_any b0 hb1 b0.size; replace u1 := (hb1.block _ (lt_of_heap u1)).trans u1))
  cases b with
  | false =>
    clear u1
    go_wp2_with (first
      | (go_at_call 9; (with_reducible refine (HWK.out _ b1).mono ?_); rintro e w2 ⟨rfl, hb2⟩))
    go_ret
    exact ⟨rfl, below_any b1 hb2 b1.size⟩
  | true =>
    have HLD1 := Lib.hid (HLD.out w1 b1)
    by_cases hgp : graphP g = true
    · have hld : Calls Tryz.prog 11 #[.agg #[.slice p1 n1 cap1, .slice p2 n2 cap2]] w1 fun e w' => ∃ s, e = .returned (.tuple #[.pointer (some ⟨s, 0, none⟩), .int .i64 0]) ∧ StoreE w' s g ∧ Below w1.heap.size w1 w' := by
        refine HLD1.out.mono ?_
        rintro e w' ⟨hb, h⟩
        rw [if_pos hgp] at h
        obtain ⟨s, rfl, hs⟩ := h
        exact ⟨s, rfl, hs, hb⟩
      have HLD2 := Lib.hid hld
      have HGG := Lib.hid (goodG hgp)
      have HPL : Hid (∀ W' s, StoreE W' s g → Calls Tryz.prog 16 #[.pointer (some ⟨s, 0, none⟩)] W' fun e w' => ∃ pn kn pe ke, e = .returned (.agg #[.slice pn n1 kn, .slice pe n2 ke]) ∧ SliceE nodeE w' (Old w') (.slice pn n1 kn) (plainG g).nodes ∧ SliceE edgeE w' (Old w') (.slice pe n2 ke) (plainG g).edges ∧ Below W'.heap.size W' w') := Lib.hid fun W' s h => by
        refine (plainAt W' s g h HGG.out).mono ?_
        intro e w' hp
        obtain ⟨vn, ve, rfl, hn, he, hb⟩ := hp.slices
        obtain ⟨pn, kn, rfl⟩ := hn.slice
        obtain ⟨pe, ke, rfl⟩ := he.slice
        have e1 : (plainG g).nodes.length = n1 := by rw [plainG_nodes]; exact HL.out.1.symm
        have e2 : (plainG g).edges.length = n2 := by rw [plainG_edges]; exact HL.out.2.symm
        rw [e1] at hn ⊢
        rw [e2] at he ⊢
        exact ⟨pn, kn, pe, ke, rfl, hn.stays (fun i hi => ⟨hi.2, rfl⟩), he.stays (fun i hi => ⟨hi.2, rfl⟩), hb⟩
      clear hld hgp hb1
      go_upto_region 6 with (first
        | ((with_reducible refine wpList_loadRowE (.tmp 1) W.heap.size 25 25 [.slice p1 n1 cap1, .slice p2 n2 cap2] 2 _ u1 rfl Tryz.underlying25 rfl size25 ?_ ?_ ?_ ?_); rfl; rfl; rfl)
        | (go_at_call 11; (with_reducible refine HLD2.out.mono ?_); rintro e w2 ⟨s, rfl, hst, hb2⟩; have b2 := below_any b1 hb2 b1.size; replace u1 := (hb2.block _ (lt_of_heap u1)).trans u1))
      have HP2 := Lib.hid (HPL.out w2 s hst)
      have HST2 := Lib.hid hst
      have HU2 := Lib.hid u1
      have HB2 := Lib.hid b2
      clear hst u1 b2 hb2 b1
      go_upto_region 7 with (first
        | (go_at_call 16; (with_reducible refine HP2.out.mono ?_); rintro e w3 ⟨pn, kn, pe, ke, rfl, hpn, hpe, hb3⟩)
        | ((with_reducible refine wpList_storeE (.tmp 5) (.tmp 43) w3.heap.size 25 25 _ [.slice pn n1 kn, .slice pe n2 ke] 2 (heap_new _ _ rfl) rfl ?_ ?_ ?_ ?_ size25 rfl (by simp [Value.oneCell']) ?_); rfl; rfl; rfl; rfl; intro w4 o4 u4))
      have b34 : Below w3.heap.size w3 w4 := below_only (below1 w3 _) o4 (Nat.le_refl _) (by simp)
      obtain ⟨pb, hpb⟩ : ∃ pb, pb = w3.heap.size := ⟨_, rfl⟩
      have b24 : Below w2.heap.size w2 w4 := below_any hb3 b34 hb3.size
      rw [← hpb] at u4 ⊢
      have hrun : RunE s pb (.slice pn n1 kn) (.slice pe n2 ke) g w4 := ⟨HST2.out.below b24, u4, hpn.stays (old_below b34), hpe.stays (old_below b34)⟩
      have HRN := Lib.hid hrun
      have HB4 := Lib.hid (below_any HB2.out b24 HB2.out.size)
      have HU4 := Lib.hid ((b24.block _ (lt_of_heap HU2.out)).trans HU2.out)
      have hld2 : Calls Tryz.prog 11 #[.agg #[.slice pn n1 kn, .slice pe n2 ke]] w4 fun e w' => ∃ s2, e = .returned (.tuple #[.pointer (some ⟨s2, 0, none⟩), .int .i64 0]) ∧ StoreE w' s2 (plainG g) ∧ Below w4.heap.size w4 w' := by
        refine (loadAt (plainG g) _ _ w4 (HGD.out.below HB4.out) hrun.ns hrun.es (by rw [plainG_nodes]; have := HL.out.1; omega) (by rw [plainG_edges]; have := HL.out.2; omega)).mono ?_
        rintro e w' ⟨hb, h⟩
        rw [if_pos (plain_may HGG.out)] at h
        obtain ⟨s2, rfl, hs⟩ := h
        exact ⟨s2, rfl, hs, hb⟩
      have HLD4 := Lib.hid hld2
      clear o4 b34 b24 hb3 hpn hpe hrun hld2 HST2 HU2 HB2 HP2 HLD2 HLD1 hpb
      go_upto_region 8 with (first
        | ((with_reducible refine wpList_loadRowE (.tmp 5) pb 25 25 [.slice pn n1 kn, .slice pe n2 ke] 2 _ u4 rfl Tryz.underlying25 rfl size25 ?_ ?_ ?_ ?_); rfl; rfl; rfl)
        | (go_at_call 11; (with_reducible refine HLD4.out.mono ?_); rintro e w5 ⟨s2, rfl, hst2, hb5⟩))
      have hpl2 : Calls Tryz.prog 16 #[.pointer (some ⟨s2, 0, none⟩)] w5.drew fun e w' => ∃ qn ln qe le, e = .returned (.agg #[.slice qn n1 ln, .slice qe n2 le]) ∧ SliceE nodeE w' (Old w') (.slice qn n1 ln) (plainG g).nodes ∧ SliceE edgeE w' (Old w') (.slice qe n2 le) (plainG g).edges ∧ Below w5.drew.heap.size w5.drew w' := by
        refine (plainAt w5.drew s2 (plainG g) (hst2.below (Below.refl w5.heap.size w5).drew) (plain_good HGG.out)).mono ?_
        intro e w' hp
        obtain ⟨vn, ve, rfl, hn, he, hb⟩ := hp.slices
        obtain ⟨pn, kn, rfl⟩ := hn.slice
        obtain ⟨pe, ke, rfl⟩ := he.slice
        rw [plain_again HGG.out] at hn he ⊢
        have e1 : (plainG g).nodes.length = n1 := by rw [plainG_nodes]; exact HL.out.1.symm
        have e2 : (plainG g).edges.length = n2 := by rw [plainG_edges]; exact HL.out.2.symm
        rw [e1] at hn ⊢
        rw [e2] at he ⊢
        exact ⟨pn, kn, pe, ke, rfl, hn.stays (fun i hi => ⟨hi.2, rfl⟩), he.stays (fun i hi => ⟨hi.2, rfl⟩), hb⟩
      have HP5 := Lib.hid hpl2
      have up := (hb5.block _ (lt_of_heap u4)).trans u4
      have ug := (hb5.block _ (lt_of_heap HU4.out)).trans HU4.out
      have hR := (HRN.out.below hb5).below (Below.refl w5.heap.size w5).drew
      have hB := (below_any HB4.out hb5 HB4.out.size).drew
      clear hst2 hpl2 HLD4 u4 HU4 HRN HB4 hb5
      refine wp_region_held_drew (S := fun W' => W'.heap[pb]? = some (.cells #[.slice pn n1 kn, .slice pe n2 ke] 25 (0, 0)) ∧ W'.heap[W.heap.size]? = some (.cells #[.slice p1 n1 cap1, .slice p2 n2 cap2] 25 (0, 0))) (by kernel_rfl) ⟨up, ug⟩ (fun _ => ?_)
      replace up : w5.drew.heap[pb]? = _ := up
      replace ug : w5.drew.heap[W.heap.size]? = _ := ug
      generalize w5.drew = wD at *
      refine wpAnyH_take (i := 0) (v := .int .i64 0) rfl (by kernel_rfl) (by kernel_rfl) (by kernel_rfl) (fun _ _ _ h => h) (Or.inl ⟨by rfl, fun W _ => by go_simp⟩) (⟨up, ug⟩) ?_
      try simp only [Act.put, List.getElem_toArray, List.getElem_cons_succ, List.getElem_cons_zero, List.setIfInBounds_toArray, List.set_cons_zero, List.set_cons_succ]
      refine wpAnyH_take (i := 1) (v := .bool false) rfl (by kernel_rfl) (by kernel_rfl) (by kernel_rfl) (fun _ _ _ h => h) (Or.inl ⟨by rfl, fun W _ => by go_simp⟩) (⟨up, ug⟩) ?_
      try simp only [Act.put, List.getElem_toArray, List.getElem_cons_succ, List.getElem_cons_zero, List.setIfInBounds_toArray, List.set_cons_zero, List.set_cons_succ]
      refine wpAnyH_take (i := 2) (v := .bool false) rfl (by kernel_rfl) (by kernel_rfl) (by kernel_rfl) (fun _ _ _ h => h) (Or.inl ⟨by rfl, fun W _ => by go_simp⟩) (⟨up, ug⟩) ?_
      try simp only [Act.put, List.getElem_toArray, List.getElem_cons_succ, List.getElem_cons_zero, List.setIfInBounds_toArray, List.set_cons_zero, List.set_cons_succ]
      refine wpAnyH_take (i := 3) (v := .pointer (some ⟨s2, 0, none⟩)) rfl (by kernel_rfl) (by kernel_rfl) (by kernel_rfl) (fun _ _ _ h => h) (Or.inl ⟨by rfl, fun W _ => by go_simp⟩) (⟨up, ug⟩) ?_
      try simp only [Act.put, List.getElem_toArray, List.getElem_cons_succ, List.getElem_cons_zero, List.setIfInBounds_toArray, List.set_cons_zero, List.set_cons_succ]
      refine wpAnyH_take (i := 4) (v := .bool false) rfl (by kernel_rfl) (by kernel_rfl) (by kernel_rfl) (fun _ _ _ h => h) (Or.inl ⟨by rfl, fun W _ => by go_simp⟩) (⟨up, ug⟩) ?_
      try simp only [Act.put, List.getElem_toArray, List.getElem_cons_succ, List.getElem_cons_zero, List.setIfInBounds_toArray, List.set_cons_zero, List.set_cons_succ]
      refine wpAnyH_take (i := 5) (v := .bool false) rfl (by kernel_rfl) (by kernel_rfl) (by kernel_rfl) (fun _ _ _ h => h) (Or.inl ⟨by rfl, fun W _ => by go_simp⟩) (⟨up, ug⟩) ?_
      try simp only [Act.put, List.getElem_toArray, List.getElem_cons_succ, List.getElem_cons_zero, List.setIfInBounds_toArray, List.set_cons_zero, List.set_cons_succ]
      refine wpAnyH_take (i := 6) (v := .bool false) rfl (by kernel_rfl) (by kernel_rfl) (by kernel_rfl) (fun _ _ _ h => h) (Or.inl ⟨by rfl, fun W _ => by go_simp⟩) (⟨up, ug⟩) ?_
      try simp only [Act.put, List.getElem_toArray, List.getElem_cons_succ, List.getElem_cons_zero, List.setIfInBounds_toArray, List.set_cons_zero, List.set_cons_succ]
      refine wpAnyH_take (i := 7) (v := .pointer (some ⟨s2, 0, none⟩)) rfl (by kernel_rfl) (by kernel_rfl) (by kernel_rfl) (fun _ _ _ h => h) (Or.inl ⟨by rfl, fun W _ => by go_simp⟩) (⟨up, ug⟩) ?_
      try simp only [Act.put, List.getElem_toArray, List.getElem_cons_succ, List.getElem_cons_zero, List.setIfInBounds_toArray, List.set_cons_zero, List.set_cons_succ]
      refine wpAnyH_take (i := 9) (v := .agg #[.slice pn n1 kn, .slice pe n2 ke]) rfl (by kernel_rfl) (by kernel_rfl) (by kernel_rfl) (fun _ _ _ h => h) (yieldsIf_load_mid (by rfl) 25 (.tmp 5) rfl pb 0 rfl [.slice pn n1 kn, .slice pe n2 ke] _ (fun W' h => range_of_heap h.1 0 _ rfl) Tryz.underlying25 rfl size25) (⟨up, ug⟩) ?_
      try simp only [Act.put, List.getElem_toArray, List.getElem_cons_succ, List.getElem_cons_zero, List.setIfInBounds_toArray, List.set_cons_zero, List.set_cons_succ]
      refine wpAnyH_ready (rs := [8]) (by kernel_rfl) (by simp) ?_
      refine AllReadyH.cons rfl (fun K hK => ?_) AllReadyH.nil
      rw [if_pos (by rfl)]
      go_simp
      refine HP5.out.mono ?_
      rintro e0 w6 ⟨qn, ln, qe, le, rfl, hqn, hqe, hb3⟩
      replace up := (hb3.block _ (lt_of_heap up)).trans up
      replace ug := (hb3.block _ (lt_of_heap ug)).trans ug
      replace hR := hR.below hb3
      replace hB := below_any hB hb3 hB.size
      have HEQ := Lib.hid (eqGraphAt (plainG g) _ _ _ _ w6 hqn hqe hR.ns hR.es (by rw [plainG_nodes]; have := HL.out.1; omega) (by rw [plainG_edges]; have := HL.out.2; omega))
      clear hb3 hqn hqe
      refine hK.out _ _ (⟨up, ug⟩) (fun _ => ?_)
      clear hK K
      try simp only [Act.put, List.getElem_toArray, List.getElem_cons_succ, List.getElem_cons_zero, List.setIfInBounds_toArray, List.set_cons_zero, List.set_cons_succ]
      refine wpAnyH_ready (rs := [10]) (by kernel_rfl) (by simp) ?_
      refine AllReadyH.cons rfl (fun K hK => ?_) AllReadyH.nil
      rw [if_pos (by rfl)]
      go_simp
      refine HEQ.out.mono ?_
      rintro e0 wE ⟨rfl, hb3⟩
      replace up := (hb3.block _ (lt_of_heap up)).trans up
      replace ug := (hb3.block _ (lt_of_heap ug)).trans ug
      replace hR := hR.below hb3
      replace hB := below_any hB hb3 hB.size
      clear hb3 HEQ
      refine hK.out _ _ (⟨up, ug⟩) (fun _ => ?_)
      clear hK K
      try simp only [Act.put, List.getElem_toArray, List.getElem_cons_succ, List.getElem_cons_zero, List.setIfInBounds_toArray, List.set_cons_zero, List.set_cons_succ]
      refine wpAnyH_take (i := 11) (v := .bool false) rfl (by kernel_rfl) (by kernel_rfl) (by kernel_rfl) (fun _ _ _ h => h) (Or.inl ⟨by rfl, fun W _ => by go_simp⟩) (⟨up, ug⟩) ?_
      try simp only [Act.put, List.getElem_toArray, List.getElem_cons_succ, List.getElem_cons_zero, List.setIfInBounds_toArray, List.set_cons_zero, List.set_cons_succ]
      refine wpAnyH_take (i := 12) (v := .bool false) rfl (by kernel_rfl) (by kernel_rfl) (by kernel_rfl) (fun _ _ _ h => h) (Or.inl ⟨by rfl, fun W _ => by go_simp⟩) (⟨up, ug⟩) ?_
      try simp only [Act.put, List.getElem_toArray, List.getElem_cons_succ, List.getElem_cons_zero, List.setIfInBounds_toArray, List.set_cons_zero, List.set_cons_succ]
      refine wpAnyH_take (i := 13) (v := .bool false) rfl (by kernel_rfl) (by kernel_rfl) (by kernel_rfl) (fun _ _ _ h => h) (Or.inl ⟨by rfl, fun W _ => by go_simp⟩) (⟨up, ug⟩) ?_
      try simp only [Act.put, List.getElem_toArray, List.getElem_cons_succ, List.getElem_cons_zero, List.setIfInBounds_toArray, List.set_cons_zero, List.set_cons_succ]
      refine wpAnyH_take (i := 14) (v := .pointer (some ⟨pb, 1, none⟩)) rfl (by kernel_rfl) (by kernel_rfl) (by kernel_rfl) (fun _ _ _ h => h) (Or.inl ⟨by rfl, fun W _ => by go_simp⟩) (⟨up, ug⟩) ?_
      try simp only [Act.put, List.getElem_toArray, List.getElem_cons_succ, List.getElem_cons_zero, List.setIfInBounds_toArray, List.set_cons_zero, List.set_cons_succ]
      refine wpAnyH_take (i := 17) (v := .pointer (some ⟨W.heap.size, 1, none⟩)) rfl (by kernel_rfl) (by kernel_rfl) (by kernel_rfl) (fun _ _ _ h => h) (Or.inl ⟨by rfl, fun W _ => by go_simp⟩) (⟨up, ug⟩) ?_
      try simp only [Act.put, List.getElem_toArray, List.getElem_cons_succ, List.getElem_cons_zero, List.setIfInBounds_toArray, List.set_cons_zero, List.set_cons_succ]
      refine wpAnyH_take (i := 15) (v := .slice pe n2 ke) rfl (by kernel_rfl) (by kernel_rfl) (by kernel_rfl) (fun _ _ _ h => h) (Or.inl ⟨by rfl, fun W' h => by have c0 := cell_of h.1 1 rfl; go_simp⟩) (⟨up, ug⟩) ?_
      try simp only [Act.put, List.getElem_toArray, List.getElem_cons_succ, List.getElem_cons_zero, List.setIfInBounds_toArray, List.set_cons_zero, List.set_cons_succ]
      refine wpAnyH_take (i := 18) (v := .slice p2 n2 cap2) rfl (by kernel_rfl) (by kernel_rfl) (by kernel_rfl) (fun _ _ _ h => h) (Or.inl ⟨by rfl, fun W' h => by have c0 := cell_of h.2 1 rfl; go_simp⟩) (⟨up, ug⟩) ?_
      try simp only [Act.put, List.getElem_toArray, List.getElem_cons_succ, List.getElem_cons_zero, List.setIfInBounds_toArray, List.set_cons_zero, List.set_cons_succ]
      refine wpAnyH_take (i := 16) (v := .int .i64 n2) rfl (by kernel_rfl) (by kernel_rfl) (by kernel_rfl) (fun _ _ _ h => h) (Or.inl ⟨by rfl, fun W _ => by go_simp⟩) (⟨up, ug⟩) ?_
      try simp only [Act.put, List.getElem_toArray, List.getElem_cons_succ, List.getElem_cons_zero, List.setIfInBounds_toArray, List.set_cons_zero, List.set_cons_succ]
      refine wpAnyH_take (i := 19) (v := .int .i64 n2) rfl (by kernel_rfl) (by kernel_rfl) (by kernel_rfl) (fun _ _ _ h => h) (Or.inl ⟨by rfl, fun W _ => by go_simp⟩) (⟨up, ug⟩) ?_
      try simp only [Act.put, List.getElem_toArray, List.getElem_cons_succ, List.getElem_cons_zero, List.setIfInBounds_toArray, List.set_cons_zero, List.set_cons_succ]
      refine wpAnyH_take (i := 20) (v := .bool false) rfl (by kernel_rfl) (by kernel_rfl) (by kernel_rfl) (fun _ _ _ h => h) (Or.inl ⟨by rfl, fun W _ => by go_simp⟩) (⟨up, ug⟩) ?_
      try simp only [Act.put, List.getElem_toArray, List.getElem_cons_succ, List.getElem_cons_zero, List.setIfInBounds_toArray, List.set_cons_zero, List.set_cons_succ]
      refine wpAnyH_take (i := 21) (v := .bool false) rfl (by kernel_rfl) (by kernel_rfl) (by kernel_rfl) (fun _ _ _ h => h) (Or.inl ⟨by rfl, fun W _ => by go_simp⟩) (⟨up, ug⟩) ?_
      try simp only [Act.put, List.getElem_toArray, List.getElem_cons_succ, List.getElem_cons_zero, List.setIfInBounds_toArray, List.set_cons_zero, List.set_cons_succ]
      refine wpAnyH_take (i := 22) (v := .bool false) rfl (by kernel_rfl) (by kernel_rfl) (by kernel_rfl) (fun _ _ _ h => h) (Or.inl ⟨by rfl, fun W _ => by go_simp⟩) (⟨up, ug⟩) ?_
      try simp only [Act.put, List.getElem_toArray, List.getElem_cons_succ, List.getElem_cons_zero, List.setIfInBounds_toArray, List.set_cons_zero, List.set_cons_succ]
      refine wpAnyH_take (i := 23) (v := .pointer (some ⟨pb, 0, none⟩)) rfl (by kernel_rfl) (by kernel_rfl) (by kernel_rfl) (fun _ _ _ h => h) (Or.inl ⟨by rfl, fun W _ => by go_simp⟩) (⟨up, ug⟩) ?_
      try simp only [Act.put, List.getElem_toArray, List.getElem_cons_succ, List.getElem_cons_zero, List.setIfInBounds_toArray, List.set_cons_zero, List.set_cons_succ]
      refine wpAnyH_take (i := 26) (v := .pointer (some ⟨W.heap.size, 0, none⟩)) rfl (by kernel_rfl) (by kernel_rfl) (by kernel_rfl) (fun _ _ _ h => h) (Or.inl ⟨by rfl, fun W _ => by go_simp⟩) (⟨up, ug⟩) ?_
      try simp only [Act.put, List.getElem_toArray, List.getElem_cons_succ, List.getElem_cons_zero, List.setIfInBounds_toArray, List.set_cons_zero, List.set_cons_succ]
      refine wpAnyH_take (i := 24) (v := .slice pn n1 kn) rfl (by kernel_rfl) (by kernel_rfl) (by kernel_rfl) (fun _ _ _ h => h) (Or.inl ⟨by rfl, fun W' h => by have c0 := cell_of h.1 0 rfl; go_simp⟩) (⟨up, ug⟩) ?_
      try simp only [Act.put, List.getElem_toArray, List.getElem_cons_succ, List.getElem_cons_zero, List.setIfInBounds_toArray, List.set_cons_zero, List.set_cons_succ]
      refine wpAnyH_take (i := 27) (v := .slice p1 n1 cap1) rfl (by kernel_rfl) (by kernel_rfl) (by kernel_rfl) (fun _ _ _ h => h) (Or.inl ⟨by rfl, fun W' h => by have c0 := cell_of h.2 0 rfl; go_simp⟩) (⟨up, ug⟩) ?_
      try simp only [Act.put, List.getElem_toArray, List.getElem_cons_succ, List.getElem_cons_zero, List.setIfInBounds_toArray, List.set_cons_zero, List.set_cons_succ]
      refine wpAnyH_take (i := 25) (v := .int .i64 n1) rfl (by kernel_rfl) (by kernel_rfl) (by kernel_rfl) (fun _ _ _ h => h) (Or.inl ⟨by rfl, fun W _ => by go_simp⟩) (⟨up, ug⟩) ?_
      try simp only [Act.put, List.getElem_toArray, List.getElem_cons_succ, List.getElem_cons_zero, List.setIfInBounds_toArray, List.set_cons_zero, List.set_cons_succ]
      refine wpAnyH_take (i := 28) (v := .int .i64 n1) rfl (by kernel_rfl) (by kernel_rfl) (by kernel_rfl) (fun _ _ _ h => h) (Or.inl ⟨by rfl, fun W _ => by go_simp⟩) (⟨up, ug⟩) ?_
      try simp only [Act.put, List.getElem_toArray, List.getElem_cons_succ, List.getElem_cons_zero, List.setIfInBounds_toArray, List.set_cons_zero, List.set_cons_succ]
      refine wpAnyH_take (i := 29) (v := .bool false) rfl (by kernel_rfl) (by kernel_rfl) (by kernel_rfl) (fun _ _ _ h => h) (Or.inl ⟨by rfl, fun W _ => by go_simp⟩) (⟨up, ug⟩) ?_
      try simp only [Act.put, List.getElem_toArray, List.getElem_cons_succ, List.getElem_cons_zero, List.setIfInBounds_toArray, List.set_cons_zero, List.set_cons_succ]
      refine wpAnyH_take (i := 30) (v := .bool false) rfl (by kernel_rfl) (by kernel_rfl) (by kernel_rfl) (fun _ _ _ h => h) (Or.inl ⟨by rfl, fun W _ => by go_simp⟩) (⟨up, ug⟩) ?_
      try simp only [Act.put, List.getElem_toArray, List.getElem_cons_succ, List.getElem_cons_zero, List.setIfInBounds_toArray, List.set_cons_zero, List.set_cons_succ]
      refine wpAnyH_done (by kernel_rfl) ?_ _
      have HRN := Lib.hid hR
      have HB7 := Lib.hid hB
      have HWF := Lib.hid (store_wf hR.st)
      clear hR hB up ug HP5
      obtain ⟨w7, hw7⟩ : ∃ w7, w7 = wE := ⟨_, rfl⟩
      subst hw7
      go_upto_block 0 with fail
      go_cut [7, 8] (fun s7 s8 wx => s7 = .int .i64 n2 ∧ s8 = .int .i64 n2 ∧ Hid (Below w7.heap.size w7 wx))
      case first =>
        go_wp2_with fail
        go_loopg [7, 8, 9] n1 (fun gg s7 s8 s9 wr => ∃ i bb be : Nat, i + gg = n1 ∧ s9 = .int .i64 i ∧ s7 = .int .i64 bb ∧ s8 = .int .i64 be ∧ bb ≤ 65536 ∧ be ≤ 65536 ∧ Hid (bb = ((numsE g).filter fun e => decide ((edgeAt g e).src ∈ (numsN g).take i)).length ∧ be = ((numsE g).filter fun e => decide ((edgeAt g e).dst ∈ (numsN g).take i)).length) ∧ Hid (Below w7.heap.size w7 wr))
        case atStart => exact ⟨0, 0, 0, by omega, rfl, rfl, rfl, by omega, by omega, Lib.hid ⟨(count_zero (fun e => (edgeAt g e).src) _ _).symm, (count_zero (fun e => (edgeAt g e).dst) _ _).symm⟩, Lib.hid (Below.refl _ _)⟩
        case round =>
          obtain ⟨i, bb, be, hig, rfl, rfl, rfl, hbb, hbe, HC, HB⟩ := hrel
          have hR := HRN.out.below HB.out
          have c0 := cell_of hR.box 0 rfl
          by_cases hi : (i : Int) < n1
          · have hi1 : i < (numsN g).length := by rw [numsN_len]; have := HL.out.1; omega
            have hi2 : i < (plainG g).nodes.length := by rw [plainG_nodes]; have := HL.out.1; omega
            obtain ⟨gn, on, kn', c, e0, hgn, hrl, hra⟩ := hR.ns.at_ i hi2
            injection e0 with e1 e2 e3
            subst e1
            replace hra : wr.rangeAt gn (on + i * 3) c := hra
            obtain ⟨n, hne⟩ : ∃ n, n = (numsN g)[i] := ⟨_, rfl⟩
            have hnm : n ∈ numsN g := by rw [hne]; exact List.getElem_mem hi1
            have hid : (plainG g).nodes[i].id = n := by
              have e : (plainG g).nodes[i] = nodeAt g (numsN g)[i] := List.getElem_map ..
              rw [e, hne]
              exact nodeAt_id HGG.out _ (List.getElem_mem hi1)
            obtain ⟨lv, pv, rfl, hwf, hrest⟩ := hrl
            clear hrest
            rw [hid] at hra hwf
            have C0 : wr.cell? ⟨gn, on + i * 3, none⟩ = some (.int .i64 n) := by have := hra 0 _ rfl; simpa using this
            have hw1 : (Lit.int .i64 n).wf = true ∧ (Lit.int .i64 1).wf = true := ⟨hwf, by decide⟩
            have hw2 : (Lit.int .i64 n).wf = true ∧ (Lit.int .i64 (-1)).wf = true := ⟨hwf, by decide⟩
            have hw3 : (Lit.int .i64 n).wf = true ∧ (Lit.int .i64 0).wf = true := ⟨hwf, by decide⟩
            obtain ⟨lo, hlo⟩ : ∃ l, l = hopsL g ⟨(n, 1), hw1⟩ [] := ⟨_, rfl⟩
            obtain ⟨li, hli⟩ : ∃ l, l = hopsL g ⟨(n, -1), hw2⟩ [] := ⟨_, rfl⟩
            obtain ⟨lb, hlb⟩ : ∃ l, l = hopsL g ⟨(n, 0), hw3⟩ [] := ⟨_, rfl⟩
            have HQ1 : Hid (∀ W', StoreE W' s g → Calls Tryz.prog 23 #[.pointer (some ⟨s, 0, none⟩), .int .i64 n, .int .i64 1, .slice none 0 0] W' (LabPost W' lo)) := Lib.hid fun W' h => by rw [hlo]; exact askHopV W' s g h HGG.out n 1 hw1 _ [] (strs_nil W') (by simp)
            have HQ2 : Hid (∀ W', StoreE W' s g → Calls Tryz.prog 23 #[.pointer (some ⟨s, 0, none⟩), .int .i64 n, .int .i64 (-1), .slice none 0 0] W' (LabPost W' li)) := Lib.hid fun W' h => by rw [hli]; exact askHopV W' s g h HGG.out n (-1) hw2 _ [] (strs_nil W') (by simp)
            have HQ3 : Hid (∀ W', StoreE W' s g → Calls Tryz.prog 23 #[.pointer (some ⟨s, 0, none⟩), .int .i64 n, .int .i64 0, .slice none 0 0] W' (LabPost W' lb)) := Lib.hid fun W' h => by rw [hlb]; exact askHopV W' s g h HGG.out n 0 hw3 _ [] (strs_nil W') (by simp)
            have f1 : lo = (numsE g).filter fun e => decide ((edgeAt g e).src = n) := by rw [hlo]; exact hops_out HGG.out HWF.out n hw1
            have f2 : li = (numsE g).filter fun e => decide ((edgeAt g e).dst = n) := by rw [hli]; exact hops_in HGG.out HWF.out n hw2
            have f3 : lb = (numsE g).filter fun e => decide ((edgeAt g e).src = n) || decide ((edgeAt g e).dst = n) := by rw [hlb]; exact hops_both HGG.out HWF.out n hw3
            have hcnt := count_or (fun e => decide ((edgeAt g e).src = n)) (fun e => decide ((edgeAt g e).dst = n)) (numsE g)
            rw [← f1, ← f2, ← f3] at hcnt
            have s1 := count_step (fun e => (edgeAt g e).src) (numsN g) (numsN_nodup HGG.out) i hi1 (numsE g)
            have s2' := count_step (fun e => (edgeAt g e).dst) (numsN g) (numsN_nodup HGG.out) i hi1 (numsE g)
            rw [← hne, ← f1, ← HC.out.1] at s1
            rw [← hne, ← f2, ← HC.out.2] at s2'
            have bn1 : ((numsE g).filter fun e => decide ((edgeAt g e).src ∈ (numsN g).take (i + 1))).length ≤ 65536 := filter_le _ _ _ (by rw [numsE_len]; exact HGG.out.ne)
            have bn2 : ((numsE g).filter fun e => decide ((edgeAt g e).dst ∈ (numsN g).take (i + 1))).length ≤ 65536 := filter_le _ _ _ (by rw [numsE_len]; exact HGG.out.ne)
            rw [s1] at bn1
            rw [s2'] at bn2
            have HS := Lib.hid (And.intro s1.symm s2'.symm)
            have hlbm : ∀ e ∈ lb, e ∈ numsE g ∧ ((edgeAt g e).src = n ∨ (edgeAt g e).dst = n) := fun e he => by
              rw [f3, List.mem_filter] at he
              exact ⟨he.1, by simpa using he.2⟩
            have hlbr : lb.Pairwise (· < ·) := by rw [f3]; exact (rise_E HGG.out).filter _
            have HLB := Lib.hid (And.intro hlbm hlbr)
            have hne2 : (numsN g)[i]? = some n := by rw [hne]; exact List.getElem?_eq_getElem hi1
            have HNE := Lib.hid hne2
            have HCC := Lib.hid C0
            have HBX := Lib.hid hR.box
            have st1 := hR.st
            obtain ⟨mo, hmo⟩ : ∃ m, m = lo.length := ⟨_, rfl⟩
            obtain ⟨mi, hmi⟩ : ∃ m, m = li.length := ⟨_, rfl⟩
            obtain ⟨mb, hmb⟩ : ∃ m, m = lb.length := ⟨_, rfl⟩
            have hQ1 : ∀ W', StoreE W' s g → Calls Tryz.prog 23 #[.pointer (some ⟨s, 0, none⟩), .int .i64 n, .int .i64 1, .slice none 0 0] W' fun e w' => ∃ p cap, e = .returned (.slice p mo cap) ∧ Below W'.heap.size W' w' := fun W' h => by
              refine (HQ1.out W' h).mono ?_
              rintro e w' ⟨p, cap, rfl, _, hb⟩
              exact ⟨p, cap, by rw [hmo], hb⟩
            have hQ2 : ∀ W', StoreE W' s g → Calls Tryz.prog 23 #[.pointer (some ⟨s, 0, none⟩), .int .i64 n, .int .i64 (-1), .slice none 0 0] W' fun e w' => ∃ p cap, e = .returned (.slice p mi cap) ∧ Below W'.heap.size W' w' := fun W' h => by
              refine (HQ2.out W' h).mono ?_
              rintro e w' ⟨p, cap, rfl, _, hb⟩
              exact ⟨p, cap, by rw [hmi], hb⟩
            have hQ3 : ∀ W', StoreE W' s g → Calls Tryz.prog 23 #[.pointer (some ⟨s, 0, none⟩), .int .i64 n, .int .i64 0, .slice none 0 0] W' fun e w' => ∃ p cap, e = .returned (.slice p mb cap) ∧ IntsAt w' (.slice p mb cap) lb ∧ Below W'.heap.size W' w' := fun W' h => by
              refine (HQ3.out W' h).mono ?_
              rintro e w' ⟨p, cap, rfl, hi, hb⟩
              rw [← hmb] at hi
              exact ⟨p, cap, by rw [hmb], hi, hb⟩
            rw [← hmo, ← hmi, ← hmb] at hcnt
            rw [← hmo] at bn1
            rw [← hmi] at bn2
            rw [← hmo, ← hmi] at HS
            have HK1 := Lib.hid hQ1
            have HK2 := Lib.hid hQ2
            have HK3 := Lib.hid hQ3
            have HMB := Lib.hid hmb
            obtain ⟨q1, q2, q3⟩ := hcnt
            clear hra e2 e3 hne hnm hid hwf hw1 hw2 hw3 hlo hli hlb f1 f2 f3 s1 s2' hlbm hlbr hmo hmi hmb hQ1 hQ2 hQ3 HQ1 HQ2 HQ3 HC hR hi1 hi2 hne2
            go_upto_region 15 with (first
              | (go_at_call 23; (with_reducible refine (HK1.out _ st1).mono ?_); rintro e wa ⟨pa, ka, rfl, hba⟩; have st2 := st1.below hba))
            replace c0 := cell_below c0 hba
            replace C0 := cell_below C0 hba
            go_upto_region 16 with (first
              | (go_at_call 23; (with_reducible refine (HK2.out _ st2).mono ?_); rintro e wb ⟨pi, ki, rfl, hbb2⟩; have st3 := st2.below hbb2))
            replace c0 := cell_below c0 hbb2
            replace C0 := cell_below C0 hbb2
            go_upto_region 17 with (first
              | (go_at_call 23; (with_reducible refine (HK3.out _ st3).mono ?_); rintro e wc ⟨pB, kB, rfl, hib, hbc⟩))
            have hbr : Below wr.heap.size wr wc := below_any (below_any hba hbb2 hba.size) hbc (below_any hba hbb2 hba.size).size
            have HIB := Lib.hid hib
            have HRC := Lib.hid (HRN.out.below (below_any HB.out hbr HB.out.size))
            have HBC := Lib.hid (below_any HB.out hbr HB.out.size)
            have HCN := Lib.hid (cell_below HCC.out hbr)
            clear c0 C0 st1 st2 st3 hba hbb2 hbc hib hbr HCC HBX HK1 HK2 HK3
            have t1 : (bb : Int) + mo < 9223372036854775808 := by omega
            have t2 : (be : Int) + mi < 9223372036854775808 := by omega
            have t3 : (mo : Int) + mi < 9223372036854775808 := by omega
            have t4 : ¬ ((mo : Int) + mi < mb) := by omega
            have t5 : decide ((mo : Int) + mi < mb) = false := decide_eq_false t4
            have t6 : decide (mb < mo) = false := decide_eq_false (by omega)
            have t7 : decide (mb < mi) = false := decide_eq_false (by omega)
            go_upto_block 2 with fail
            clear t1 t2 t3 t4 t5 t6 t7
            go_cut [13] (fun _ wx => Hid (Below wc.heap.size wc wx))
            case first =>
              go_wp2_with fail
              go_loopg [13] mb (fun gg s13 wr => ∃ k : Nat, k + gg = mb ∧ s13 = .int .i64 k ∧ Hid (Below wc.heap.size wc wr))
              case atStart => exact ⟨0, by omega, rfl, Lib.hid (Below.refl _ _)⟩
              case round =>
                obtain ⟨k, hkg, rfl, HI⟩ := hrel
                by_cases hk : (k : Int) < mb
                · have hk1 : k < lb.length := by have := HMB.out; omega
                  obtain ⟨pp, cc, e0, hcv⟩ := HIB.out.below HI.out
                  injection e0 with e1 e2 e3
                  subst e1
                  obtain ⟨gb, ob, rfl, hcj⟩ := hcv (by intro q; rw [q] at hk1; simp at hk1)
                  obtain ⟨e, hee⟩ : ∃ e, e = lb[k] := ⟨_, rfl⟩
                  have ce : wr.cell? ⟨gb, ob + k, none⟩ = some (.int .i64 e) := by
                    rw [hcj k hk1, hee]
                    simp [hk1]
                  have hem := HLB.out.1 e (by rw [hee]; exact List.getElem_mem hk1)
                  have hR := HRC.out.below HI.out
                  have hcn := cell_below HCN.out HI.out
                  have hwfe : (Lit.int .i64 e).wf = true := by
                    obtain ⟨_, _, _, _, _, _, _, _, q2, _⟩ := hR.st.is
                    obtain ⟨a, ha, rfl⟩ := List.mem_map.1 ((numsE_mem g e).1 hem.1)
                    exact (edge_wf q2 a ha).1
                  have hed : Calls Tryz.prog 19 #[.pointer (some ⟨s, 0, none⟩), .int .i64 e] wr fun e' w' => ∃ id ty pv, e' = .returned (.tuple #[.agg #[.int .i64 id, .int .i64 (edgeAt g e).src, .int .i64 (edgeAt g e).dst, .string ty, pv], .bool true]) ∧ pv.oneCell' = true ∧ Below wr.heap.size wr w' := by
                    refine (edgeByAt wr s g hR.st HGG.out e hwfe).mono ?_
                    rintro e' w' ⟨c, rfl, hc, hb⟩
                    rw [edgeOr_eq HGG.out e hem.1] at hc
                    have hone := edgeE.one hc
                    obtain ⟨pv, rfl, _⟩ := hc
                    rw [show decide (e ∈ g.edges.map EdgeL.id) = true from decide_eq_true ((numsE_mem g e).1 hem.1)]
                    exact ⟨_, _, pv, rfl, hone pv (by simp), hb⟩
                  obtain ⟨src, hsrc⟩ : ∃ x, x = (edgeAt g e).src := ⟨_, rfl⟩
                  obtain ⟨dst, hdst⟩ : ∃ x, x = (edgeAt g e).dst := ⟨_, rfl⟩
                  rw [← hsrc, ← hdst] at hed hem
                  have HED := Lib.hid hed
                  have hsd := hem.2
                  have hcp : k = 0 ∨ ∃ e', 0 < k ∧ wr.cell? ⟨gb, ob + (k - 1), none⟩ = some (.int .i64 e') ∧ e' < e := by
                    by_cases h0 : k = 0
                    · exact .inl h0
                    · have hk0 : k - 1 < lb.length := by omega
                      refine .inr ⟨lb[k - 1], by omega, ?_, ?_⟩
                      · rw [hcj (k - 1) hk0]
                        simp [hk0]
                      · rw [hee]
                        exact List.pairwise_iff_getElem.1 HLB.out.2 (k - 1) k hk0 hk1 (by omega)
                  have HCP := Lib.hid hcp
                  have HRR := Lib.hid hR
                  have HCE := Lib.hid ce
                  have HCM := Lib.hid hcn
                  have HSD := Lib.hid hsd
                  clear hcv hcj e2 e3 hee hem hed hsd hcp hR hwfe hsrc hdst hcn
                  go_upto_region 25 with (first
                    | (go_at_call 19; (with_reducible refine HED.out.mono ?_); rintro e' w8 ⟨xid, xty, xpv, rfl, hpv1, hb8⟩)
                    | ((with_reducible refine wpList_storeE (.tmp 14) (.tmp 154) w8.heap.size 41 41 _ [.int .i64 xid, .int .i64 src, .int .i64 dst, .string xty, xpv] 5 (heap_new _ _ rfl) rfl ?_ ?_ ?_ ?_ size_edgeE rfl (by simp [Value.oneCell'] at hpv1 ⊢; try exact hpv1) ?_); rfl; rfl; rfl; rfl; intro w9 o9 ux))
                  have b89 : Below w8.heap.size w8 w9 := below_only (below1 w8 _) o9 (Nat.le_refl _) (by simp)
                  have b9 := below_any hb8 b89 hb8.size
                  obtain ⟨xb, hxb⟩ : ∃ xb, xb = w8.heap.size := ⟨_, rfl⟩
                  rw [← hxb] at ux ⊢
                  have ub := (HRR.out.below b9).box
                  have cn := cell_below HCM.out b9
                  have ce9 := cell_below HCE.out b9
                  have hBI := below_any HI.out b9 HI.out.size
                  have HCP9 : Hid (k = 0 ∨ ∃ e', 0 < k ∧ w9.cell? ⟨gb, ob + (k - 1), none⟩ = some (.int .i64 e') ∧ e' < e) := Lib.hid (HCP.out.imp id fun ⟨e', h0, h1, h2⟩ => ⟨e', h0, cell_below h1 b9, h2⟩)
                  clear o9 b89 hb8 hxb b9 ce HED HCP HRR HCE HCM
                  by_cases hs : src = n
                  · subst hs
                    rcases HCP9.out with hk0 | ⟨e', hk0, cp, hee⟩
                    · have kz1 : decide (0 < k) = false := decide_eq_false (by omega)
                      have kz2 : ¬ (0 < k) := by omega
                      clear hk0
                      as_aux_lemma =>
                        refine wp_region_held_drew (S := fun W' => W'.heap[xb]? = some (.cells #[.int .i64 xid, .int .i64 src, .int .i64 dst, .string xty, xpv] 41 (0, 0)) ∧ W'.heap[pb]? = some (.cells #[.slice (some ⟨gn, on, none⟩) n1 kn, .slice pe n2 ke] 25 (0, 0)) ∧ W'.cell? ⟨gn, on + i * 3, none⟩ = some (.int .i64 src) ∧ W'.cell? ⟨gb, ob + k, none⟩ = some (.int .i64 e)) (by kernel_rfl) ⟨ux, ub, cn, ce9⟩ (fun _ => ?_)
                        replace hBI := hBI.drew
                        replace ux : w9.drew.heap[xb]? = _ := ux
                        replace ub : w9.drew.heap[pb]? = _ := ub
                        replace cn : w9.drew.cell? ⟨gn, on + i * 3, none⟩ = _ := cn
                        replace ce9 : w9.drew.cell? ⟨gb, ob + k, none⟩ = _ := ce9
                        generalize w9.drew = wD at *
                        refine wpAnyH_take (i := 0) (v := .bool true) rfl (by kernel_rfl) (by kernel_rfl) (by kernel_rfl) (fun _ _ _ h => h) (Or.inl ⟨by rfl, fun W _ => by go_simp⟩) (⟨ux, ub, cn, ce9⟩) ?_
                        try simp only [Act.put, List.getElem_toArray, List.getElem_cons_succ, List.getElem_cons_zero, List.setIfInBounds_toArray, List.set_cons_zero, List.set_cons_succ]
                        refine wpAnyH_take (i := 1) (v := .bool false) rfl (by kernel_rfl) (by kernel_rfl) (by kernel_rfl) (fun _ _ _ h => h) (Or.inl ⟨by rfl, fun W _ => by go_simp⟩) (⟨ux, ub, cn, ce9⟩) ?_
                        try simp only [Act.put, List.getElem_toArray, List.getElem_cons_succ, List.getElem_cons_zero, List.setIfInBounds_toArray, List.set_cons_zero, List.set_cons_succ]
                        refine wpAnyH_take (i := 2) (v := .bool false) rfl (by kernel_rfl) (by kernel_rfl) (by kernel_rfl) (fun _ _ _ h => h) (Or.inl ⟨by rfl, fun W _ => by go_simp⟩) (⟨ux, ub, cn, ce9⟩) ?_
                        try simp only [Act.put, List.getElem_toArray, List.getElem_cons_succ, List.getElem_cons_zero, List.setIfInBounds_toArray, List.set_cons_zero, List.set_cons_succ]
                        refine wpAnyH_take (i := 3) (v := .pointer (some ⟨xb, 1, none⟩)) rfl (by kernel_rfl) (by kernel_rfl) (by kernel_rfl) (fun _ _ _ h => h) (Or.inl ⟨by rfl, fun W _ => by go_simp⟩) (⟨ux, ub, cn, ce9⟩) ?_
                        try simp only [Act.put, List.getElem_toArray, List.getElem_cons_succ, List.getElem_cons_zero, List.setIfInBounds_toArray, List.set_cons_zero, List.set_cons_succ]
                        refine wpAnyH_take (i := 5) (v := .pointer (some ⟨pb, 0, none⟩)) rfl (by kernel_rfl) (by kernel_rfl) (by kernel_rfl) (fun _ _ _ h => h) (Or.inl ⟨by rfl, fun W _ => by go_simp⟩) (⟨ux, ub, cn, ce9⟩) ?_
                        try simp only [Act.put, List.getElem_toArray, List.getElem_cons_succ, List.getElem_cons_zero, List.setIfInBounds_toArray, List.set_cons_zero, List.set_cons_succ]
                        refine wpAnyH_take (i := 7) (v := .int .i64 (i : Int)) rfl (by kernel_rfl) (by kernel_rfl) (by kernel_rfl) (fun _ _ _ h => h) (Or.inl ⟨by rfl, fun W _ => by go_simp⟩) (⟨ux, ub, cn, ce9⟩) ?_
                        try simp only [Act.put, List.getElem_toArray, List.getElem_cons_succ, List.getElem_cons_zero, List.setIfInBounds_toArray, List.set_cons_zero, List.set_cons_succ]
                        refine wpAnyH_take (i := 4) (v := .int .i64 src) rfl (by kernel_rfl) (by kernel_rfl) (by kernel_rfl) (fun _ _ _ h => h) (Or.inl ⟨by rfl, fun W' h => by have c0 := cell_of h.1 1 rfl; go_simp⟩) (⟨ux, ub, cn, ce9⟩) ?_
                        try simp only [Act.put, List.getElem_toArray, List.getElem_cons_succ, List.getElem_cons_zero, List.setIfInBounds_toArray, List.set_cons_zero, List.set_cons_succ]
                        refine wpAnyH_take (i := 6) (v := .slice (some ⟨gn, on, none⟩) n1 kn) rfl (by kernel_rfl) (by kernel_rfl) (by kernel_rfl) (fun _ _ _ h => h) (Or.inl ⟨by rfl, fun W' h => by have c0 := cell_of h.2.1 0 rfl; go_simp⟩) (⟨ux, ub, cn, ce9⟩) ?_
                        try simp only [Act.put, List.getElem_toArray, List.getElem_cons_succ, List.getElem_cons_zero, List.setIfInBounds_toArray, List.set_cons_zero, List.set_cons_succ]
                        refine wpAnyH_take (i := 8) (v := .pointer (some ⟨gn, on + i * 3, none⟩)) rfl (by kernel_rfl) (by kernel_rfl) (by kernel_rfl) (fun _ _ _ h => h) (Or.inl ⟨by rfl, fun W _ => by go_simp⟩) (⟨ux, ub, cn, ce9⟩) ?_
                        try simp only [Act.put, List.getElem_toArray, List.getElem_cons_succ, List.getElem_cons_zero, List.setIfInBounds_toArray, List.set_cons_zero, List.set_cons_succ]
                        refine wpAnyH_take (i := 9) (v := .pointer (some ⟨gn, on + i * 3, none⟩)) rfl (by kernel_rfl) (by kernel_rfl) (by kernel_rfl) (fun _ _ _ h => h) (Or.inl ⟨by rfl, fun W _ => by go_simp⟩) (⟨ux, ub, cn, ce9⟩) ?_
                        try simp only [Act.put, List.getElem_toArray, List.getElem_cons_succ, List.getElem_cons_zero, List.setIfInBounds_toArray, List.set_cons_zero, List.set_cons_succ]
                        refine wpAnyH_take (i := 10) (v := .int .i64 src) rfl (by kernel_rfl) (by kernel_rfl) (by kernel_rfl) (fun _ _ _ h => h) (Or.inl ⟨by rfl, fun W' h => by have c0 := h.2.2.1; go_simp⟩) (⟨ux, ub, cn, ce9⟩) ?_
                        try simp only [Act.put, List.getElem_toArray, List.getElem_cons_succ, List.getElem_cons_zero, List.setIfInBounds_toArray, List.set_cons_zero, List.set_cons_succ]
                        refine wpAnyH_take (i := 11) (v := .bool false) rfl (by kernel_rfl) (by kernel_rfl) (by kernel_rfl) (fun _ _ _ h => h) (Or.inl ⟨by rfl, fun W _ => by go_simp⟩) (⟨ux, ub, cn, ce9⟩) ?_
                        try simp only [Act.put, List.getElem_toArray, List.getElem_cons_succ, List.getElem_cons_zero, List.setIfInBounds_toArray, List.set_cons_zero, List.set_cons_succ]
                        refine wpAnyH_take (i := 12) (v := .bool false) rfl (by kernel_rfl) (by kernel_rfl) (by kernel_rfl) (fun _ _ _ h => h) (Or.inl ⟨by rfl, fun W _ => by go_simp⟩) (⟨ux, ub, cn, ce9⟩) ?_
                        try simp only [Act.put, List.getElem_toArray, List.getElem_cons_succ, List.getElem_cons_zero, List.setIfInBounds_toArray, List.set_cons_zero, List.set_cons_succ]
                        refine wpAnyH_take (i := 13) (v := undef) rfl (by kernel_rfl) (by kernel_rfl) (by kernel_rfl) (fun _ _ _ h => h) (Or.inr ⟨by rfl, rfl⟩) (⟨ux, ub, cn, ce9⟩) ?_
                        try simp only [Act.put, List.getElem_toArray, List.getElem_cons_succ, List.getElem_cons_zero, List.setIfInBounds_toArray, List.set_cons_zero, List.set_cons_succ]
                        refine wpAnyH_take (i := 15) (v := undef) rfl (by kernel_rfl) (by kernel_rfl) (by kernel_rfl) (fun _ _ _ h => h) (Or.inr ⟨by rfl, rfl⟩) (⟨ux, ub, cn, ce9⟩) ?_
                        try simp only [Act.put, List.getElem_toArray, List.getElem_cons_succ, List.getElem_cons_zero, List.setIfInBounds_toArray, List.set_cons_zero, List.set_cons_succ]
                        refine wpAnyH_take (i := 17) (v := undef) rfl (by kernel_rfl) (by kernel_rfl) (by kernel_rfl) (fun _ _ _ h => h) (Or.inr ⟨by rfl, rfl⟩) (⟨ux, ub, cn, ce9⟩) ?_
                        try simp only [Act.put, List.getElem_toArray, List.getElem_cons_succ, List.getElem_cons_zero, List.setIfInBounds_toArray, List.set_cons_zero, List.set_cons_succ]
                        refine wpAnyH_take (i := 14) (v := undef) rfl (by kernel_rfl) (by kernel_rfl) (by kernel_rfl) (fun _ _ _ h => h) (Or.inr ⟨by rfl, rfl⟩) (⟨ux, ub, cn, ce9⟩) ?_
                        try simp only [Act.put, List.getElem_toArray, List.getElem_cons_succ, List.getElem_cons_zero, List.setIfInBounds_toArray, List.set_cons_zero, List.set_cons_succ]
                        refine wpAnyH_take (i := 16) (v := undef) rfl (by kernel_rfl) (by kernel_rfl) (by kernel_rfl) (fun _ _ _ h => h) (Or.inr ⟨by rfl, rfl⟩) (⟨ux, ub, cn, ce9⟩) ?_
                        try simp only [Act.put, List.getElem_toArray, List.getElem_cons_succ, List.getElem_cons_zero, List.setIfInBounds_toArray, List.set_cons_zero, List.set_cons_succ]
                        refine wpAnyH_take (i := 18) (v := undef) rfl (by kernel_rfl) (by kernel_rfl) (by kernel_rfl) (fun _ _ _ h => h) (Or.inr ⟨by rfl, rfl⟩) (⟨ux, ub, cn, ce9⟩) ?_
                        try simp only [Act.put, List.getElem_toArray, List.getElem_cons_succ, List.getElem_cons_zero, List.setIfInBounds_toArray, List.set_cons_zero, List.set_cons_succ]
                        refine wpAnyH_take (i := 19) (v := undef) rfl (by kernel_rfl) (by kernel_rfl) (by kernel_rfl) (fun _ _ _ h => h) (Or.inr ⟨by rfl, rfl⟩) (⟨ux, ub, cn, ce9⟩) ?_
                        try simp only [Act.put, List.getElem_toArray, List.getElem_cons_succ, List.getElem_cons_zero, List.setIfInBounds_toArray, List.set_cons_zero, List.set_cons_succ]
                        refine wpAnyH_take (i := 20) (v := undef) rfl (by kernel_rfl) (by kernel_rfl) (by kernel_rfl) (fun _ _ _ h => h) (Or.inr ⟨by rfl, rfl⟩) (⟨ux, ub, cn, ce9⟩) ?_
                        try simp only [Act.put, List.getElem_toArray, List.getElem_cons_succ, List.getElem_cons_zero, List.setIfInBounds_toArray, List.set_cons_zero, List.set_cons_succ]
                        refine wpAnyH_take (i := 21) (v := undef) rfl (by kernel_rfl) (by kernel_rfl) (by kernel_rfl) (fun _ _ _ h => h) (Or.inr ⟨by rfl, rfl⟩) (⟨ux, ub, cn, ce9⟩) ?_
                        try simp only [Act.put, List.getElem_toArray, List.getElem_cons_succ, List.getElem_cons_zero, List.setIfInBounds_toArray, List.set_cons_zero, List.set_cons_succ]
                        refine wpAnyH_take (i := 22) (v := .bool false) rfl (by kernel_rfl) (by kernel_rfl) (by kernel_rfl) (fun _ _ _ h => h) (Or.inl ⟨by rfl, fun W _ => by go_simp⟩) (⟨ux, ub, cn, ce9⟩) ?_
                        try simp only [Act.put, List.getElem_toArray, List.getElem_cons_succ, List.getElem_cons_zero, List.setIfInBounds_toArray, List.set_cons_zero, List.set_cons_succ]
                        refine wpAnyH_take (i := 23) (v := .bool false) rfl (by kernel_rfl) (by kernel_rfl) (by kernel_rfl) (fun _ _ _ h => h) (Or.inl ⟨by rfl, fun W _ => by go_simp⟩) (⟨ux, ub, cn, ce9⟩) ?_
                        try simp only [Act.put, List.getElem_toArray, List.getElem_cons_succ, List.getElem_cons_zero, List.setIfInBounds_toArray, List.set_cons_zero, List.set_cons_succ]
                        refine wpAnyH_take (i := 24) (v := .bool false) rfl (by kernel_rfl) (by kernel_rfl) (by kernel_rfl) (fun _ _ _ h => h) (Or.inl ⟨by rfl, fun W _ => by go_simp⟩) (⟨ux, ub, cn, ce9⟩) ?_
                        try simp only [Act.put, List.getElem_toArray, List.getElem_cons_succ, List.getElem_cons_zero, List.setIfInBounds_toArray, List.set_cons_zero, List.set_cons_succ]
                        refine wpAnyH_take (i := 25) (v := .int .i64 (k : Int)) rfl (by kernel_rfl) (by kernel_rfl) (by kernel_rfl) (fun _ _ _ h => h) (Or.inl ⟨by rfl, fun W _ => by go_simp⟩) (⟨ux, ub, cn, ce9⟩) ?_
                        try simp only [Act.put, List.getElem_toArray, List.getElem_cons_succ, List.getElem_cons_zero, List.setIfInBounds_toArray, List.set_cons_zero, List.set_cons_succ]
                        refine wpAnyH_take (i := 26) (v := .bool false) rfl (by kernel_rfl) (by kernel_rfl) (by kernel_rfl) (fun _ _ _ h => h) (Or.inl ⟨by rfl, fun W _ => by go_simp⟩) (⟨ux, ub, cn, ce9⟩) ?_
                        try simp only [Act.put, List.getElem_toArray, List.getElem_cons_succ, List.getElem_cons_zero, List.setIfInBounds_toArray, List.set_cons_zero, List.set_cons_succ]
                        refine wpAnyH_take (i := 27) (v := .bool false) rfl (by kernel_rfl) (by kernel_rfl) (by kernel_rfl) (fun _ _ _ h => h) (Or.inl ⟨by rfl, fun W _ => by go_simp⟩) (⟨ux, ub, cn, ce9⟩) ?_
                        try simp only [Act.put, List.getElem_toArray, List.getElem_cons_succ, List.getElem_cons_zero, List.setIfInBounds_toArray, List.set_cons_zero, List.set_cons_succ]
                        refine wpAnyH_take (i := 28) (v := undef) rfl (by kernel_rfl) (by kernel_rfl) (by kernel_rfl) (fun _ _ _ h => h) (Or.inr ⟨by rfl, rfl⟩) (⟨ux, ub, cn, ce9⟩) ?_
                        try simp only [Act.put, List.getElem_toArray, List.getElem_cons_succ, List.getElem_cons_zero, List.setIfInBounds_toArray, List.set_cons_zero, List.set_cons_succ]
                        refine wpAnyH_take (i := 29) (v := undef) rfl (by kernel_rfl) (by kernel_rfl) (by kernel_rfl) (fun _ _ _ h => h) (Or.inr ⟨by rfl, rfl⟩) (⟨ux, ub, cn, ce9⟩) ?_
                        try simp only [Act.put, List.getElem_toArray, List.getElem_cons_succ, List.getElem_cons_zero, List.setIfInBounds_toArray, List.set_cons_zero, List.set_cons_succ]
                        refine wpAnyH_take (i := 33) (v := undef) rfl (by kernel_rfl) (by kernel_rfl) (by kernel_rfl) (fun _ _ _ h => h) (Or.inr ⟨by rfl, rfl⟩) (⟨ux, ub, cn, ce9⟩) ?_
                        try simp only [Act.put, List.getElem_toArray, List.getElem_cons_succ, List.getElem_cons_zero, List.setIfInBounds_toArray, List.set_cons_zero, List.set_cons_succ]
                        refine wpAnyH_take (i := 34) (v := undef) rfl (by kernel_rfl) (by kernel_rfl) (by kernel_rfl) (fun _ _ _ h => h) (Or.inr ⟨by rfl, rfl⟩) (⟨ux, ub, cn, ce9⟩) ?_
                        try simp only [Act.put, List.getElem_toArray, List.getElem_cons_succ, List.getElem_cons_zero, List.setIfInBounds_toArray, List.set_cons_zero, List.set_cons_succ]
                        refine wpAnyH_take (i := 30) (v := undef) rfl (by kernel_rfl) (by kernel_rfl) (by kernel_rfl) (fun _ _ _ h => h) (Or.inr ⟨by rfl, rfl⟩) (⟨ux, ub, cn, ce9⟩) ?_
                        try simp only [Act.put, List.getElem_toArray, List.getElem_cons_succ, List.getElem_cons_zero, List.setIfInBounds_toArray, List.set_cons_zero, List.set_cons_succ]
                        refine wpAnyH_take (i := 35) (v := undef) rfl (by kernel_rfl) (by kernel_rfl) (by kernel_rfl) (fun _ _ _ h => h) (Or.inr ⟨by rfl, rfl⟩) (⟨ux, ub, cn, ce9⟩) ?_
                        try simp only [Act.put, List.getElem_toArray, List.getElem_cons_succ, List.getElem_cons_zero, List.setIfInBounds_toArray, List.set_cons_zero, List.set_cons_succ]
                        refine wpAnyH_take (i := 31) (v := undef) rfl (by kernel_rfl) (by kernel_rfl) (by kernel_rfl) (fun _ _ _ h => h) (Or.inr ⟨by rfl, rfl⟩) (⟨ux, ub, cn, ce9⟩) ?_
                        try simp only [Act.put, List.getElem_toArray, List.getElem_cons_succ, List.getElem_cons_zero, List.setIfInBounds_toArray, List.set_cons_zero, List.set_cons_succ]
                        refine wpAnyH_take (i := 36) (v := undef) rfl (by kernel_rfl) (by kernel_rfl) (by kernel_rfl) (fun _ _ _ h => h) (Or.inr ⟨by rfl, rfl⟩) (⟨ux, ub, cn, ce9⟩) ?_
                        try simp only [Act.put, List.getElem_toArray, List.getElem_cons_succ, List.getElem_cons_zero, List.setIfInBounds_toArray, List.set_cons_zero, List.set_cons_succ]
                        refine wpAnyH_take (i := 32) (v := undef) rfl (by kernel_rfl) (by kernel_rfl) (by kernel_rfl) (fun _ _ _ h => h) (Or.inr ⟨by rfl, rfl⟩) (⟨ux, ub, cn, ce9⟩) ?_
                        try simp only [Act.put, List.getElem_toArray, List.getElem_cons_succ, List.getElem_cons_zero, List.setIfInBounds_toArray, List.set_cons_zero, List.set_cons_succ]
                        refine wpAnyH_take (i := 37) (v := undef) rfl (by kernel_rfl) (by kernel_rfl) (by kernel_rfl) (fun _ _ _ h => h) (Or.inr ⟨by rfl, rfl⟩) (⟨ux, ub, cn, ce9⟩) ?_
                        try simp only [Act.put, List.getElem_toArray, List.getElem_cons_succ, List.getElem_cons_zero, List.setIfInBounds_toArray, List.set_cons_zero, List.set_cons_succ]
                        refine wpAnyH_take (i := 38) (v := .bool false) rfl (by kernel_rfl) (by kernel_rfl) (by kernel_rfl) (fun _ _ _ h => h) (Or.inl ⟨by rfl, fun W _ => by go_simp⟩) (⟨ux, ub, cn, ce9⟩) ?_
                        try simp only [Act.put, List.getElem_toArray, List.getElem_cons_succ, List.getElem_cons_zero, List.setIfInBounds_toArray, List.set_cons_zero, List.set_cons_succ]
                        refine wpAnyH_take (i := 39) (v := .bool false) rfl (by kernel_rfl) (by kernel_rfl) (by kernel_rfl) (fun _ _ _ h => h) (Or.inl ⟨by rfl, fun W _ => by go_simp⟩) (⟨ux, ub, cn, ce9⟩) ?_
                        try simp only [Act.put, List.getElem_toArray, List.getElem_cons_succ, List.getElem_cons_zero, List.setIfInBounds_toArray, List.set_cons_zero, List.set_cons_succ]
                        refine wpAnyH_done (by kernel_rfl) ?_ _
                        clear ux ub cn ce9
                        go_wp2_with fail
                        go_roundg (gk - 1)
                        case measure => omega
                        case rel => exact ⟨k + 1, by omega, by go_num, Lib.hid hBI⟩
                    · have ke1 : decide (e ≤ e') = false := decide_eq_false (by omega)
                      have ke2 : (0 : Int) ≤ (k : Int) - 1 := by omega
                      have ke3 : (k : Int) - 1 < mb := by omega
                      have ke4 : ((k : Int) - 1).toNat = k - 1 := by omega
                      have ke5 : (1 : Int) ≤ (k : Int) := by omega
                      clear hee
                      as_aux_lemma =>
                        refine wp_region_held_drew (S := fun W' => W'.heap[xb]? = some (.cells #[.int .i64 xid, .int .i64 src, .int .i64 dst, .string xty, xpv] 41 (0, 0)) ∧ W'.heap[pb]? = some (.cells #[.slice (some ⟨gn, on, none⟩) n1 kn, .slice pe n2 ke] 25 (0, 0)) ∧ W'.cell? ⟨gn, on + i * 3, none⟩ = some (.int .i64 src) ∧ W'.cell? ⟨gb, ob + k, none⟩ = some (.int .i64 e) ∧ W'.cell? ⟨gb, ob + (k - 1), none⟩ = some (.int .i64 e')) (by kernel_rfl) ⟨ux, ub, cn, ce9, cp⟩ (fun _ => ?_)
                        replace hBI := hBI.drew
                        replace ux : w9.drew.heap[xb]? = _ := ux
                        replace ub : w9.drew.heap[pb]? = _ := ub
                        replace cn : w9.drew.cell? ⟨gn, on + i * 3, none⟩ = _ := cn
                        replace ce9 : w9.drew.cell? ⟨gb, ob + k, none⟩ = _ := ce9
                        replace cp : w9.drew.cell? ⟨gb, ob + (k - 1), none⟩ = _ := cp
                        generalize w9.drew = wD at *
                        refine wpAnyH_take (i := 0) (v := .bool true) rfl (by kernel_rfl) (by kernel_rfl) (by kernel_rfl) (fun _ _ _ h => h) (Or.inl ⟨by rfl, fun W _ => by go_simp⟩) (⟨ux, ub, cn, ce9, cp⟩) ?_
                        try simp only [Act.put, List.getElem_toArray, List.getElem_cons_succ, List.getElem_cons_zero, List.setIfInBounds_toArray, List.set_cons_zero, List.set_cons_succ]
                        refine wpAnyH_take (i := 1) (v := .bool false) rfl (by kernel_rfl) (by kernel_rfl) (by kernel_rfl) (fun _ _ _ h => h) (Or.inl ⟨by rfl, fun W _ => by go_simp⟩) (⟨ux, ub, cn, ce9, cp⟩) ?_
                        try simp only [Act.put, List.getElem_toArray, List.getElem_cons_succ, List.getElem_cons_zero, List.setIfInBounds_toArray, List.set_cons_zero, List.set_cons_succ]
                        refine wpAnyH_take (i := 2) (v := .bool false) rfl (by kernel_rfl) (by kernel_rfl) (by kernel_rfl) (fun _ _ _ h => h) (Or.inl ⟨by rfl, fun W _ => by go_simp⟩) (⟨ux, ub, cn, ce9, cp⟩) ?_
                        try simp only [Act.put, List.getElem_toArray, List.getElem_cons_succ, List.getElem_cons_zero, List.setIfInBounds_toArray, List.set_cons_zero, List.set_cons_succ]
                        refine wpAnyH_take (i := 3) (v := .pointer (some ⟨xb, 1, none⟩)) rfl (by kernel_rfl) (by kernel_rfl) (by kernel_rfl) (fun _ _ _ h => h) (Or.inl ⟨by rfl, fun W _ => by go_simp⟩) (⟨ux, ub, cn, ce9, cp⟩) ?_
                        try simp only [Act.put, List.getElem_toArray, List.getElem_cons_succ, List.getElem_cons_zero, List.setIfInBounds_toArray, List.set_cons_zero, List.set_cons_succ]
                        refine wpAnyH_take (i := 5) (v := .pointer (some ⟨pb, 0, none⟩)) rfl (by kernel_rfl) (by kernel_rfl) (by kernel_rfl) (fun _ _ _ h => h) (Or.inl ⟨by rfl, fun W _ => by go_simp⟩) (⟨ux, ub, cn, ce9, cp⟩) ?_
                        try simp only [Act.put, List.getElem_toArray, List.getElem_cons_succ, List.getElem_cons_zero, List.setIfInBounds_toArray, List.set_cons_zero, List.set_cons_succ]
                        refine wpAnyH_take (i := 7) (v := .int .i64 (i : Int)) rfl (by kernel_rfl) (by kernel_rfl) (by kernel_rfl) (fun _ _ _ h => h) (Or.inl ⟨by rfl, fun W _ => by go_simp⟩) (⟨ux, ub, cn, ce9, cp⟩) ?_
                        try simp only [Act.put, List.getElem_toArray, List.getElem_cons_succ, List.getElem_cons_zero, List.setIfInBounds_toArray, List.set_cons_zero, List.set_cons_succ]
                        refine wpAnyH_take (i := 4) (v := .int .i64 src) rfl (by kernel_rfl) (by kernel_rfl) (by kernel_rfl) (fun _ _ _ h => h) (Or.inl ⟨by rfl, fun W' h => by have c0 := cell_of h.1 1 rfl; go_simp⟩) (⟨ux, ub, cn, ce9, cp⟩) ?_
                        try simp only [Act.put, List.getElem_toArray, List.getElem_cons_succ, List.getElem_cons_zero, List.setIfInBounds_toArray, List.set_cons_zero, List.set_cons_succ]
                        refine wpAnyH_take (i := 6) (v := .slice (some ⟨gn, on, none⟩) n1 kn) rfl (by kernel_rfl) (by kernel_rfl) (by kernel_rfl) (fun _ _ _ h => h) (Or.inl ⟨by rfl, fun W' h => by have c0 := cell_of h.2.1 0 rfl; go_simp⟩) (⟨ux, ub, cn, ce9, cp⟩) ?_
                        try simp only [Act.put, List.getElem_toArray, List.getElem_cons_succ, List.getElem_cons_zero, List.setIfInBounds_toArray, List.set_cons_zero, List.set_cons_succ]
                        refine wpAnyH_take (i := 8) (v := .pointer (some ⟨gn, on + i * 3, none⟩)) rfl (by kernel_rfl) (by kernel_rfl) (by kernel_rfl) (fun _ _ _ h => h) (Or.inl ⟨by rfl, fun W _ => by go_simp⟩) (⟨ux, ub, cn, ce9, cp⟩) ?_
                        try simp only [Act.put, List.getElem_toArray, List.getElem_cons_succ, List.getElem_cons_zero, List.setIfInBounds_toArray, List.set_cons_zero, List.set_cons_succ]
                        refine wpAnyH_take (i := 9) (v := .pointer (some ⟨gn, on + i * 3, none⟩)) rfl (by kernel_rfl) (by kernel_rfl) (by kernel_rfl) (fun _ _ _ h => h) (Or.inl ⟨by rfl, fun W _ => by go_simp⟩) (⟨ux, ub, cn, ce9, cp⟩) ?_
                        try simp only [Act.put, List.getElem_toArray, List.getElem_cons_succ, List.getElem_cons_zero, List.setIfInBounds_toArray, List.set_cons_zero, List.set_cons_succ]
                        refine wpAnyH_take (i := 10) (v := .int .i64 src) rfl (by kernel_rfl) (by kernel_rfl) (by kernel_rfl) (fun _ _ _ h => h) (Or.inl ⟨by rfl, fun W' h => by have c0 := h.2.2.1; go_simp⟩) (⟨ux, ub, cn, ce9, cp⟩) ?_
                        try simp only [Act.put, List.getElem_toArray, List.getElem_cons_succ, List.getElem_cons_zero, List.setIfInBounds_toArray, List.set_cons_zero, List.set_cons_succ]
                        refine wpAnyH_take (i := 11) (v := .bool false) rfl (by kernel_rfl) (by kernel_rfl) (by kernel_rfl) (fun _ _ _ h => h) (Or.inl ⟨by rfl, fun W _ => by go_simp⟩) (⟨ux, ub, cn, ce9, cp⟩) ?_
                        try simp only [Act.put, List.getElem_toArray, List.getElem_cons_succ, List.getElem_cons_zero, List.setIfInBounds_toArray, List.set_cons_zero, List.set_cons_succ]
                        refine wpAnyH_take (i := 12) (v := .bool false) rfl (by kernel_rfl) (by kernel_rfl) (by kernel_rfl) (fun _ _ _ h => h) (Or.inl ⟨by rfl, fun W _ => by go_simp⟩) (⟨ux, ub, cn, ce9, cp⟩) ?_
                        try simp only [Act.put, List.getElem_toArray, List.getElem_cons_succ, List.getElem_cons_zero, List.setIfInBounds_toArray, List.set_cons_zero, List.set_cons_succ]
                        refine wpAnyH_take (i := 13) (v := undef) rfl (by kernel_rfl) (by kernel_rfl) (by kernel_rfl) (fun _ _ _ h => h) (Or.inr ⟨by rfl, rfl⟩) (⟨ux, ub, cn, ce9, cp⟩) ?_
                        try simp only [Act.put, List.getElem_toArray, List.getElem_cons_succ, List.getElem_cons_zero, List.setIfInBounds_toArray, List.set_cons_zero, List.set_cons_succ]
                        refine wpAnyH_take (i := 15) (v := undef) rfl (by kernel_rfl) (by kernel_rfl) (by kernel_rfl) (fun _ _ _ h => h) (Or.inr ⟨by rfl, rfl⟩) (⟨ux, ub, cn, ce9, cp⟩) ?_
                        try simp only [Act.put, List.getElem_toArray, List.getElem_cons_succ, List.getElem_cons_zero, List.setIfInBounds_toArray, List.set_cons_zero, List.set_cons_succ]
                        refine wpAnyH_take (i := 17) (v := undef) rfl (by kernel_rfl) (by kernel_rfl) (by kernel_rfl) (fun _ _ _ h => h) (Or.inr ⟨by rfl, rfl⟩) (⟨ux, ub, cn, ce9, cp⟩) ?_
                        try simp only [Act.put, List.getElem_toArray, List.getElem_cons_succ, List.getElem_cons_zero, List.setIfInBounds_toArray, List.set_cons_zero, List.set_cons_succ]
                        refine wpAnyH_take (i := 14) (v := undef) rfl (by kernel_rfl) (by kernel_rfl) (by kernel_rfl) (fun _ _ _ h => h) (Or.inr ⟨by rfl, rfl⟩) (⟨ux, ub, cn, ce9, cp⟩) ?_
                        try simp only [Act.put, List.getElem_toArray, List.getElem_cons_succ, List.getElem_cons_zero, List.setIfInBounds_toArray, List.set_cons_zero, List.set_cons_succ]
                        refine wpAnyH_take (i := 16) (v := undef) rfl (by kernel_rfl) (by kernel_rfl) (by kernel_rfl) (fun _ _ _ h => h) (Or.inr ⟨by rfl, rfl⟩) (⟨ux, ub, cn, ce9, cp⟩) ?_
                        try simp only [Act.put, List.getElem_toArray, List.getElem_cons_succ, List.getElem_cons_zero, List.setIfInBounds_toArray, List.set_cons_zero, List.set_cons_succ]
                        refine wpAnyH_take (i := 18) (v := undef) rfl (by kernel_rfl) (by kernel_rfl) (by kernel_rfl) (fun _ _ _ h => h) (Or.inr ⟨by rfl, rfl⟩) (⟨ux, ub, cn, ce9, cp⟩) ?_
                        try simp only [Act.put, List.getElem_toArray, List.getElem_cons_succ, List.getElem_cons_zero, List.setIfInBounds_toArray, List.set_cons_zero, List.set_cons_succ]
                        refine wpAnyH_take (i := 19) (v := undef) rfl (by kernel_rfl) (by kernel_rfl) (by kernel_rfl) (fun _ _ _ h => h) (Or.inr ⟨by rfl, rfl⟩) (⟨ux, ub, cn, ce9, cp⟩) ?_
                        try simp only [Act.put, List.getElem_toArray, List.getElem_cons_succ, List.getElem_cons_zero, List.setIfInBounds_toArray, List.set_cons_zero, List.set_cons_succ]
                        refine wpAnyH_take (i := 20) (v := undef) rfl (by kernel_rfl) (by kernel_rfl) (by kernel_rfl) (fun _ _ _ h => h) (Or.inr ⟨by rfl, rfl⟩) (⟨ux, ub, cn, ce9, cp⟩) ?_
                        try simp only [Act.put, List.getElem_toArray, List.getElem_cons_succ, List.getElem_cons_zero, List.setIfInBounds_toArray, List.set_cons_zero, List.set_cons_succ]
                        refine wpAnyH_take (i := 21) (v := undef) rfl (by kernel_rfl) (by kernel_rfl) (by kernel_rfl) (fun _ _ _ h => h) (Or.inr ⟨by rfl, rfl⟩) (⟨ux, ub, cn, ce9, cp⟩) ?_
                        try simp only [Act.put, List.getElem_toArray, List.getElem_cons_succ, List.getElem_cons_zero, List.setIfInBounds_toArray, List.set_cons_zero, List.set_cons_succ]
                        refine wpAnyH_take (i := 22) (v := .bool false) rfl (by kernel_rfl) (by kernel_rfl) (by kernel_rfl) (fun _ _ _ h => h) (Or.inl ⟨by rfl, fun W _ => by go_simp⟩) (⟨ux, ub, cn, ce9, cp⟩) ?_
                        try simp only [Act.put, List.getElem_toArray, List.getElem_cons_succ, List.getElem_cons_zero, List.setIfInBounds_toArray, List.set_cons_zero, List.set_cons_succ]
                        refine wpAnyH_take (i := 23) (v := .bool false) rfl (by kernel_rfl) (by kernel_rfl) (by kernel_rfl) (fun _ _ _ h => h) (Or.inl ⟨by rfl, fun W _ => by go_simp⟩) (⟨ux, ub, cn, ce9, cp⟩) ?_
                        try simp only [Act.put, List.getElem_toArray, List.getElem_cons_succ, List.getElem_cons_zero, List.setIfInBounds_toArray, List.set_cons_zero, List.set_cons_succ]
                        refine wpAnyH_take (i := 24) (v := .bool false) rfl (by kernel_rfl) (by kernel_rfl) (by kernel_rfl) (fun _ _ _ h => h) (Or.inl ⟨by rfl, fun W _ => by go_simp⟩) (⟨ux, ub, cn, ce9, cp⟩) ?_
                        try simp only [Act.put, List.getElem_toArray, List.getElem_cons_succ, List.getElem_cons_zero, List.setIfInBounds_toArray, List.set_cons_zero, List.set_cons_succ]
                        refine wpAnyH_take (i := 25) (v := .int .i64 (k : Int)) rfl (by kernel_rfl) (by kernel_rfl) (by kernel_rfl) (fun _ _ _ h => h) (Or.inl ⟨by rfl, fun W _ => by go_simp⟩) (⟨ux, ub, cn, ce9, cp⟩) ?_
                        try simp only [Act.put, List.getElem_toArray, List.getElem_cons_succ, List.getElem_cons_zero, List.setIfInBounds_toArray, List.set_cons_zero, List.set_cons_succ]
                        refine wpAnyH_take (i := 26) (v := .bool true) rfl (by kernel_rfl) (by kernel_rfl) (by kernel_rfl) (fun _ _ _ h => h) (Or.inl ⟨by rfl, fun W _ => by go_simp⟩) (⟨ux, ub, cn, ce9, cp⟩) ?_
                        try simp only [Act.put, List.getElem_toArray, List.getElem_cons_succ, List.getElem_cons_zero, List.setIfInBounds_toArray, List.set_cons_zero, List.set_cons_succ]
                        refine wpAnyH_take (i := 27) (v := .bool true) rfl (by kernel_rfl) (by kernel_rfl) (by kernel_rfl) (fun _ _ _ h => h) (Or.inl ⟨by rfl, fun W _ => by go_simp⟩) (⟨ux, ub, cn, ce9, cp⟩) ?_
                        try simp only [Act.put, List.getElem_toArray, List.getElem_cons_succ, List.getElem_cons_zero, List.setIfInBounds_toArray, List.set_cons_zero, List.set_cons_succ]
                        refine wpAnyH_take (i := 28) (v := .slice (some ⟨gb, ob, none⟩) mb kB) rfl (by kernel_rfl) (by kernel_rfl) (by kernel_rfl) (fun _ _ _ h => h) (Or.inl ⟨by rfl, fun W _ => by go_simp⟩) (⟨ux, ub, cn, ce9, cp⟩) ?_
                        try simp only [Act.put, List.getElem_toArray, List.getElem_cons_succ, List.getElem_cons_zero, List.setIfInBounds_toArray, List.set_cons_zero, List.set_cons_succ]
                        refine wpAnyH_take (i := 29) (v := .int .i64 (k : Int)) rfl (by kernel_rfl) (by kernel_rfl) (by kernel_rfl) (fun _ _ _ h => h) (Or.inl ⟨by rfl, fun W _ => by go_simp⟩) (⟨ux, ub, cn, ce9, cp⟩) ?_
                        try simp only [Act.put, List.getElem_toArray, List.getElem_cons_succ, List.getElem_cons_zero, List.setIfInBounds_toArray, List.set_cons_zero, List.set_cons_succ]
                        refine wpAnyH_take (i := 33) (v := .slice (some ⟨gb, ob, none⟩) mb kB) rfl (by kernel_rfl) (by kernel_rfl) (by kernel_rfl) (fun _ _ _ h => h) (Or.inl ⟨by rfl, fun W _ => by go_simp⟩) (⟨ux, ub, cn, ce9, cp⟩) ?_
                        try simp only [Act.put, List.getElem_toArray, List.getElem_cons_succ, List.getElem_cons_zero, List.setIfInBounds_toArray, List.set_cons_zero, List.set_cons_succ]
                        refine wpAnyH_take (i := 34) (v := .int .i64 (k : Int)) rfl (by kernel_rfl) (by kernel_rfl) (by kernel_rfl) (fun _ _ _ h => h) (Or.inl ⟨by rfl, fun W _ => by go_simp⟩) (⟨ux, ub, cn, ce9, cp⟩) ?_
                        try simp only [Act.put, List.getElem_toArray, List.getElem_cons_succ, List.getElem_cons_zero, List.setIfInBounds_toArray, List.set_cons_zero, List.set_cons_succ]
                        refine wpAnyH_take (i := 30) (v := .int .i64 ((k : Int) - 1)) rfl (by kernel_rfl) (by kernel_rfl) (by kernel_rfl) (fun _ _ _ h => h) (Or.inl ⟨by rfl, fun W _ => by go_simp; exact wrap64_id (by omega) (by omega)⟩) (⟨ux, ub, cn, ce9, cp⟩) ?_
                        try simp only [Act.put, List.getElem_toArray, List.getElem_cons_succ, List.getElem_cons_zero, List.setIfInBounds_toArray, List.set_cons_zero, List.set_cons_succ]
                        refine wpAnyH_take (i := 35) (v := .pointer (some ⟨gb, ob + k, none⟩)) rfl (by kernel_rfl) (by kernel_rfl) (by kernel_rfl) (fun _ _ _ h => h) (Or.inl ⟨by rfl, fun W _ => by go_simp⟩) (⟨ux, ub, cn, ce9, cp⟩) ?_
                        try simp only [Act.put, List.getElem_toArray, List.getElem_cons_succ, List.getElem_cons_zero, List.setIfInBounds_toArray, List.set_cons_zero, List.set_cons_succ]
                        refine wpAnyH_take (i := 31) (v := .pointer (some ⟨gb, ob + (k - 1), none⟩)) rfl (by kernel_rfl) (by kernel_rfl) (by kernel_rfl) (fun _ _ _ h => h) (Or.inl ⟨by rfl, fun W _ => by go_simp⟩) (⟨ux, ub, cn, ce9, cp⟩) ?_
                        try simp only [Act.put, List.getElem_toArray, List.getElem_cons_succ, List.getElem_cons_zero, List.setIfInBounds_toArray, List.set_cons_zero, List.set_cons_succ]
                        refine wpAnyH_take (i := 36) (v := .int .i64 e) rfl (by kernel_rfl) (by kernel_rfl) (by kernel_rfl) (fun _ _ _ h => h) (Or.inl ⟨by rfl, fun W' h => by have c0 := h.2.2.2.1; go_simp⟩) (⟨ux, ub, cn, ce9, cp⟩) ?_
                        try simp only [Act.put, List.getElem_toArray, List.getElem_cons_succ, List.getElem_cons_zero, List.setIfInBounds_toArray, List.set_cons_zero, List.set_cons_succ]
                        refine wpAnyH_take (i := 32) (v := .int .i64 e') rfl (by kernel_rfl) (by kernel_rfl) (by kernel_rfl) (fun _ _ _ h => h) (Or.inl ⟨by rfl, fun W' h => by have c0 := h.2.2.2.2; go_simp⟩) (⟨ux, ub, cn, ce9, cp⟩) ?_
                        try simp only [Act.put, List.getElem_toArray, List.getElem_cons_succ, List.getElem_cons_zero, List.setIfInBounds_toArray, List.set_cons_zero, List.set_cons_succ]
                        refine wpAnyH_take (i := 37) (v := .bool false) rfl (by kernel_rfl) (by kernel_rfl) (by kernel_rfl) (fun _ _ _ h => h) (Or.inl ⟨by rfl, fun W _ => by go_simp⟩) (⟨ux, ub, cn, ce9, cp⟩) ?_
                        try simp only [Act.put, List.getElem_toArray, List.getElem_cons_succ, List.getElem_cons_zero, List.setIfInBounds_toArray, List.set_cons_zero, List.set_cons_succ]
                        refine wpAnyH_take (i := 38) (v := .bool false) rfl (by kernel_rfl) (by kernel_rfl) (by kernel_rfl) (fun _ _ _ h => h) (Or.inl ⟨by rfl, fun W _ => by go_simp⟩) (⟨ux, ub, cn, ce9, cp⟩) ?_
                        try simp only [Act.put, List.getElem_toArray, List.getElem_cons_succ, List.getElem_cons_zero, List.setIfInBounds_toArray, List.set_cons_zero, List.set_cons_succ]
                        refine wpAnyH_take (i := 39) (v := .bool false) rfl (by kernel_rfl) (by kernel_rfl) (by kernel_rfl) (fun _ _ _ h => h) (Or.inl ⟨by rfl, fun W _ => by go_simp⟩) (⟨ux, ub, cn, ce9, cp⟩) ?_
                        try simp only [Act.put, List.getElem_toArray, List.getElem_cons_succ, List.getElem_cons_zero, List.setIfInBounds_toArray, List.set_cons_zero, List.set_cons_succ]
                        refine wpAnyH_done (by kernel_rfl) ?_ _
                        clear ux ub cn ce9 cp
                        go_wp2_with fail
                        go_roundg (gk - 1)
                        case measure => omega
                        case rel => exact ⟨k + 1, by omega, by go_num, Lib.hid hBI⟩
                  · have hs2 : dst = n := HSD.out.resolve_left hs
                    have hsn : (src != n) = true := by simpa using hs
                    subst hs2
                    clear hs
                    rcases HCP9.out with hk0 | ⟨e', hk0, cp, hee⟩
                    · have kz1 : decide (0 < k) = false := decide_eq_false (by omega)
                      have kz2 : ¬ (0 < k) := by omega
                      clear hk0
                      as_aux_lemma =>
                        refine wp_region_held_drew (S := fun W' => W'.heap[xb]? = some (.cells #[.int .i64 xid, .int .i64 src, .int .i64 dst, .string xty, xpv] 41 (0, 0)) ∧ W'.heap[pb]? = some (.cells #[.slice (some ⟨gn, on, none⟩) n1 kn, .slice pe n2 ke] 25 (0, 0)) ∧ W'.cell? ⟨gn, on + i * 3, none⟩ = some (.int .i64 dst) ∧ W'.cell? ⟨gb, ob + k, none⟩ = some (.int .i64 e)) (by kernel_rfl) ⟨ux, ub, cn, ce9⟩ (fun _ => ?_)
                        replace hBI := hBI.drew
                        replace ux : w9.drew.heap[xb]? = _ := ux
                        replace ub : w9.drew.heap[pb]? = _ := ub
                        replace cn : w9.drew.cell? ⟨gn, on + i * 3, none⟩ = _ := cn
                        replace ce9 : w9.drew.cell? ⟨gb, ob + k, none⟩ = _ := ce9
                        generalize w9.drew = wD at *
                        refine wpAnyH_take (i := 0) (v := .bool true) rfl (by kernel_rfl) (by kernel_rfl) (by kernel_rfl) (fun _ _ _ h => h) (Or.inl ⟨by rfl, fun W _ => by go_simp⟩) (⟨ux, ub, cn, ce9⟩) ?_
                        try simp only [Act.put, List.getElem_toArray, List.getElem_cons_succ, List.getElem_cons_zero, List.setIfInBounds_toArray, List.set_cons_zero, List.set_cons_succ]
                        refine wpAnyH_take (i := 1) (v := .bool false) rfl (by kernel_rfl) (by kernel_rfl) (by kernel_rfl) (fun _ _ _ h => h) (Or.inl ⟨by rfl, fun W _ => by go_simp⟩) (⟨ux, ub, cn, ce9⟩) ?_
                        try simp only [Act.put, List.getElem_toArray, List.getElem_cons_succ, List.getElem_cons_zero, List.setIfInBounds_toArray, List.set_cons_zero, List.set_cons_succ]
                        refine wpAnyH_take (i := 2) (v := .bool false) rfl (by kernel_rfl) (by kernel_rfl) (by kernel_rfl) (fun _ _ _ h => h) (Or.inl ⟨by rfl, fun W _ => by go_simp⟩) (⟨ux, ub, cn, ce9⟩) ?_
                        try simp only [Act.put, List.getElem_toArray, List.getElem_cons_succ, List.getElem_cons_zero, List.setIfInBounds_toArray, List.set_cons_zero, List.set_cons_succ]
                        refine wpAnyH_take (i := 3) (v := .pointer (some ⟨xb, 1, none⟩)) rfl (by kernel_rfl) (by kernel_rfl) (by kernel_rfl) (fun _ _ _ h => h) (Or.inl ⟨by rfl, fun W _ => by go_simp⟩) (⟨ux, ub, cn, ce9⟩) ?_
                        try simp only [Act.put, List.getElem_toArray, List.getElem_cons_succ, List.getElem_cons_zero, List.setIfInBounds_toArray, List.set_cons_zero, List.set_cons_succ]
                        refine wpAnyH_take (i := 5) (v := .pointer (some ⟨pb, 0, none⟩)) rfl (by kernel_rfl) (by kernel_rfl) (by kernel_rfl) (fun _ _ _ h => h) (Or.inl ⟨by rfl, fun W _ => by go_simp⟩) (⟨ux, ub, cn, ce9⟩) ?_
                        try simp only [Act.put, List.getElem_toArray, List.getElem_cons_succ, List.getElem_cons_zero, List.setIfInBounds_toArray, List.set_cons_zero, List.set_cons_succ]
                        refine wpAnyH_take (i := 7) (v := .int .i64 (i : Int)) rfl (by kernel_rfl) (by kernel_rfl) (by kernel_rfl) (fun _ _ _ h => h) (Or.inl ⟨by rfl, fun W _ => by go_simp⟩) (⟨ux, ub, cn, ce9⟩) ?_
                        try simp only [Act.put, List.getElem_toArray, List.getElem_cons_succ, List.getElem_cons_zero, List.setIfInBounds_toArray, List.set_cons_zero, List.set_cons_succ]
                        refine wpAnyH_take (i := 4) (v := .int .i64 src) rfl (by kernel_rfl) (by kernel_rfl) (by kernel_rfl) (fun _ _ _ h => h) (Or.inl ⟨by rfl, fun W' h => by have c0 := cell_of h.1 1 rfl; go_simp⟩) (⟨ux, ub, cn, ce9⟩) ?_
                        try simp only [Act.put, List.getElem_toArray, List.getElem_cons_succ, List.getElem_cons_zero, List.setIfInBounds_toArray, List.set_cons_zero, List.set_cons_succ]
                        refine wpAnyH_take (i := 6) (v := .slice (some ⟨gn, on, none⟩) n1 kn) rfl (by kernel_rfl) (by kernel_rfl) (by kernel_rfl) (fun _ _ _ h => h) (Or.inl ⟨by rfl, fun W' h => by have c0 := cell_of h.2.1 0 rfl; go_simp⟩) (⟨ux, ub, cn, ce9⟩) ?_
                        try simp only [Act.put, List.getElem_toArray, List.getElem_cons_succ, List.getElem_cons_zero, List.setIfInBounds_toArray, List.set_cons_zero, List.set_cons_succ]
                        refine wpAnyH_take (i := 8) (v := .pointer (some ⟨gn, on + i * 3, none⟩)) rfl (by kernel_rfl) (by kernel_rfl) (by kernel_rfl) (fun _ _ _ h => h) (Or.inl ⟨by rfl, fun W _ => by go_simp⟩) (⟨ux, ub, cn, ce9⟩) ?_
                        try simp only [Act.put, List.getElem_toArray, List.getElem_cons_succ, List.getElem_cons_zero, List.setIfInBounds_toArray, List.set_cons_zero, List.set_cons_succ]
                        refine wpAnyH_take (i := 9) (v := .pointer (some ⟨gn, on + i * 3, none⟩)) rfl (by kernel_rfl) (by kernel_rfl) (by kernel_rfl) (fun _ _ _ h => h) (Or.inl ⟨by rfl, fun W _ => by go_simp⟩) (⟨ux, ub, cn, ce9⟩) ?_
                        try simp only [Act.put, List.getElem_toArray, List.getElem_cons_succ, List.getElem_cons_zero, List.setIfInBounds_toArray, List.set_cons_zero, List.set_cons_succ]
                        refine wpAnyH_take (i := 10) (v := .int .i64 dst) rfl (by kernel_rfl) (by kernel_rfl) (by kernel_rfl) (fun _ _ _ h => h) (Or.inl ⟨by rfl, fun W' h => by have c0 := h.2.2.1; go_simp⟩) (⟨ux, ub, cn, ce9⟩) ?_
                        try simp only [Act.put, List.getElem_toArray, List.getElem_cons_succ, List.getElem_cons_zero, List.setIfInBounds_toArray, List.set_cons_zero, List.set_cons_succ]
                        refine wpAnyH_take (i := 11) (v := .bool true) rfl (by kernel_rfl) (by kernel_rfl) (by kernel_rfl) (fun _ _ _ h => h) (Or.inl ⟨by rfl, fun W _ => by go_simp⟩) (⟨ux, ub, cn, ce9⟩) ?_
                        try simp only [Act.put, List.getElem_toArray, List.getElem_cons_succ, List.getElem_cons_zero, List.setIfInBounds_toArray, List.set_cons_zero, List.set_cons_succ]
                        refine wpAnyH_take (i := 12) (v := .bool true) rfl (by kernel_rfl) (by kernel_rfl) (by kernel_rfl) (fun _ _ _ h => h) (Or.inl ⟨by rfl, fun W _ => by go_simp⟩) (⟨ux, ub, cn, ce9⟩) ?_
                        try simp only [Act.put, List.getElem_toArray, List.getElem_cons_succ, List.getElem_cons_zero, List.setIfInBounds_toArray, List.set_cons_zero, List.set_cons_succ]
                        refine wpAnyH_take (i := 13) (v := .pointer (some ⟨xb, 2, none⟩)) rfl (by kernel_rfl) (by kernel_rfl) (by kernel_rfl) (fun _ _ _ h => h) (Or.inl ⟨by rfl, fun W _ => by go_simp⟩) (⟨ux, ub, cn, ce9⟩) ?_
                        try simp only [Act.put, List.getElem_toArray, List.getElem_cons_succ, List.getElem_cons_zero, List.setIfInBounds_toArray, List.set_cons_zero, List.set_cons_succ]
                        refine wpAnyH_take (i := 15) (v := .pointer (some ⟨pb, 0, none⟩)) rfl (by kernel_rfl) (by kernel_rfl) (by kernel_rfl) (fun _ _ _ h => h) (Or.inl ⟨by rfl, fun W _ => by go_simp⟩) (⟨ux, ub, cn, ce9⟩) ?_
                        try simp only [Act.put, List.getElem_toArray, List.getElem_cons_succ, List.getElem_cons_zero, List.setIfInBounds_toArray, List.set_cons_zero, List.set_cons_succ]
                        refine wpAnyH_take (i := 17) (v := .int .i64 (i : Int)) rfl (by kernel_rfl) (by kernel_rfl) (by kernel_rfl) (fun _ _ _ h => h) (Or.inl ⟨by rfl, fun W _ => by go_simp⟩) (⟨ux, ub, cn, ce9⟩) ?_
                        try simp only [Act.put, List.getElem_toArray, List.getElem_cons_succ, List.getElem_cons_zero, List.setIfInBounds_toArray, List.set_cons_zero, List.set_cons_succ]
                        refine wpAnyH_take (i := 14) (v := .int .i64 dst) rfl (by kernel_rfl) (by kernel_rfl) (by kernel_rfl) (fun _ _ _ h => h) (Or.inl ⟨by rfl, fun W' h => by have c0 := cell_of h.1 2 rfl; go_simp⟩) (⟨ux, ub, cn, ce9⟩) ?_
                        try simp only [Act.put, List.getElem_toArray, List.getElem_cons_succ, List.getElem_cons_zero, List.setIfInBounds_toArray, List.set_cons_zero, List.set_cons_succ]
                        refine wpAnyH_take (i := 16) (v := .slice (some ⟨gn, on, none⟩) n1 kn) rfl (by kernel_rfl) (by kernel_rfl) (by kernel_rfl) (fun _ _ _ h => h) (Or.inl ⟨by rfl, fun W' h => by have c0 := cell_of h.2.1 0 rfl; go_simp⟩) (⟨ux, ub, cn, ce9⟩) ?_
                        try simp only [Act.put, List.getElem_toArray, List.getElem_cons_succ, List.getElem_cons_zero, List.setIfInBounds_toArray, List.set_cons_zero, List.set_cons_succ]
                        refine wpAnyH_take (i := 18) (v := .pointer (some ⟨gn, on + i * 3, none⟩)) rfl (by kernel_rfl) (by kernel_rfl) (by kernel_rfl) (fun _ _ _ h => h) (Or.inl ⟨by rfl, fun W _ => by go_simp⟩) (⟨ux, ub, cn, ce9⟩) ?_
                        try simp only [Act.put, List.getElem_toArray, List.getElem_cons_succ, List.getElem_cons_zero, List.setIfInBounds_toArray, List.set_cons_zero, List.set_cons_succ]
                        refine wpAnyH_take (i := 19) (v := .pointer (some ⟨gn, on + i * 3, none⟩)) rfl (by kernel_rfl) (by kernel_rfl) (by kernel_rfl) (fun _ _ _ h => h) (Or.inl ⟨by rfl, fun W _ => by go_simp⟩) (⟨ux, ub, cn, ce9⟩) ?_
                        try simp only [Act.put, List.getElem_toArray, List.getElem_cons_succ, List.getElem_cons_zero, List.setIfInBounds_toArray, List.set_cons_zero, List.set_cons_succ]
                        refine wpAnyH_take (i := 20) (v := .int .i64 dst) rfl (by kernel_rfl) (by kernel_rfl) (by kernel_rfl) (fun _ _ _ h => h) (Or.inl ⟨by rfl, fun W' h => by have c0 := h.2.2.1; go_simp⟩) (⟨ux, ub, cn, ce9⟩) ?_
                        try simp only [Act.put, List.getElem_toArray, List.getElem_cons_succ, List.getElem_cons_zero, List.setIfInBounds_toArray, List.set_cons_zero, List.set_cons_succ]
                        refine wpAnyH_take (i := 21) (v := .bool false) rfl (by kernel_rfl) (by kernel_rfl) (by kernel_rfl) (fun _ _ _ h => h) (Or.inl ⟨by rfl, fun W _ => by go_simp⟩) (⟨ux, ub, cn, ce9⟩) ?_
                        try simp only [Act.put, List.getElem_toArray, List.getElem_cons_succ, List.getElem_cons_zero, List.setIfInBounds_toArray, List.set_cons_zero, List.set_cons_succ]
                        refine wpAnyH_take (i := 22) (v := .bool false) rfl (by kernel_rfl) (by kernel_rfl) (by kernel_rfl) (fun _ _ _ h => h) (Or.inl ⟨by rfl, fun W _ => by go_simp⟩) (⟨ux, ub, cn, ce9⟩) ?_
                        try simp only [Act.put, List.getElem_toArray, List.getElem_cons_succ, List.getElem_cons_zero, List.setIfInBounds_toArray, List.set_cons_zero, List.set_cons_succ]
                        refine wpAnyH_take (i := 23) (v := .bool false) rfl (by kernel_rfl) (by kernel_rfl) (by kernel_rfl) (fun _ _ _ h => h) (Or.inl ⟨by rfl, fun W _ => by go_simp⟩) (⟨ux, ub, cn, ce9⟩) ?_
                        try simp only [Act.put, List.getElem_toArray, List.getElem_cons_succ, List.getElem_cons_zero, List.setIfInBounds_toArray, List.set_cons_zero, List.set_cons_succ]
                        refine wpAnyH_take (i := 24) (v := .bool false) rfl (by kernel_rfl) (by kernel_rfl) (by kernel_rfl) (fun _ _ _ h => h) (Or.inl ⟨by rfl, fun W _ => by go_simp⟩) (⟨ux, ub, cn, ce9⟩) ?_
                        try simp only [Act.put, List.getElem_toArray, List.getElem_cons_succ, List.getElem_cons_zero, List.setIfInBounds_toArray, List.set_cons_zero, List.set_cons_succ]
                        refine wpAnyH_take (i := 25) (v := .int .i64 (k : Int)) rfl (by kernel_rfl) (by kernel_rfl) (by kernel_rfl) (fun _ _ _ h => h) (Or.inl ⟨by rfl, fun W _ => by go_simp⟩) (⟨ux, ub, cn, ce9⟩) ?_
                        try simp only [Act.put, List.getElem_toArray, List.getElem_cons_succ, List.getElem_cons_zero, List.setIfInBounds_toArray, List.set_cons_zero, List.set_cons_succ]
                        refine wpAnyH_take (i := 26) (v := .bool false) rfl (by kernel_rfl) (by kernel_rfl) (by kernel_rfl) (fun _ _ _ h => h) (Or.inl ⟨by rfl, fun W _ => by go_simp⟩) (⟨ux, ub, cn, ce9⟩) ?_
                        try simp only [Act.put, List.getElem_toArray, List.getElem_cons_succ, List.getElem_cons_zero, List.setIfInBounds_toArray, List.set_cons_zero, List.set_cons_succ]
                        refine wpAnyH_take (i := 27) (v := .bool false) rfl (by kernel_rfl) (by kernel_rfl) (by kernel_rfl) (fun _ _ _ h => h) (Or.inl ⟨by rfl, fun W _ => by go_simp⟩) (⟨ux, ub, cn, ce9⟩) ?_
                        try simp only [Act.put, List.getElem_toArray, List.getElem_cons_succ, List.getElem_cons_zero, List.setIfInBounds_toArray, List.set_cons_zero, List.set_cons_succ]
                        refine wpAnyH_take (i := 28) (v := undef) rfl (by kernel_rfl) (by kernel_rfl) (by kernel_rfl) (fun _ _ _ h => h) (Or.inr ⟨by rfl, rfl⟩) (⟨ux, ub, cn, ce9⟩) ?_
                        try simp only [Act.put, List.getElem_toArray, List.getElem_cons_succ, List.getElem_cons_zero, List.setIfInBounds_toArray, List.set_cons_zero, List.set_cons_succ]
                        refine wpAnyH_take (i := 29) (v := undef) rfl (by kernel_rfl) (by kernel_rfl) (by kernel_rfl) (fun _ _ _ h => h) (Or.inr ⟨by rfl, rfl⟩) (⟨ux, ub, cn, ce9⟩) ?_
                        try simp only [Act.put, List.getElem_toArray, List.getElem_cons_succ, List.getElem_cons_zero, List.setIfInBounds_toArray, List.set_cons_zero, List.set_cons_succ]
                        refine wpAnyH_take (i := 33) (v := undef) rfl (by kernel_rfl) (by kernel_rfl) (by kernel_rfl) (fun _ _ _ h => h) (Or.inr ⟨by rfl, rfl⟩) (⟨ux, ub, cn, ce9⟩) ?_
                        try simp only [Act.put, List.getElem_toArray, List.getElem_cons_succ, List.getElem_cons_zero, List.setIfInBounds_toArray, List.set_cons_zero, List.set_cons_succ]
                        refine wpAnyH_take (i := 34) (v := undef) rfl (by kernel_rfl) (by kernel_rfl) (by kernel_rfl) (fun _ _ _ h => h) (Or.inr ⟨by rfl, rfl⟩) (⟨ux, ub, cn, ce9⟩) ?_
                        try simp only [Act.put, List.getElem_toArray, List.getElem_cons_succ, List.getElem_cons_zero, List.setIfInBounds_toArray, List.set_cons_zero, List.set_cons_succ]
                        refine wpAnyH_take (i := 30) (v := undef) rfl (by kernel_rfl) (by kernel_rfl) (by kernel_rfl) (fun _ _ _ h => h) (Or.inr ⟨by rfl, rfl⟩) (⟨ux, ub, cn, ce9⟩) ?_
                        try simp only [Act.put, List.getElem_toArray, List.getElem_cons_succ, List.getElem_cons_zero, List.setIfInBounds_toArray, List.set_cons_zero, List.set_cons_succ]
                        refine wpAnyH_take (i := 35) (v := undef) rfl (by kernel_rfl) (by kernel_rfl) (by kernel_rfl) (fun _ _ _ h => h) (Or.inr ⟨by rfl, rfl⟩) (⟨ux, ub, cn, ce9⟩) ?_
                        try simp only [Act.put, List.getElem_toArray, List.getElem_cons_succ, List.getElem_cons_zero, List.setIfInBounds_toArray, List.set_cons_zero, List.set_cons_succ]
                        refine wpAnyH_take (i := 31) (v := undef) rfl (by kernel_rfl) (by kernel_rfl) (by kernel_rfl) (fun _ _ _ h => h) (Or.inr ⟨by rfl, rfl⟩) (⟨ux, ub, cn, ce9⟩) ?_
                        try simp only [Act.put, List.getElem_toArray, List.getElem_cons_succ, List.getElem_cons_zero, List.setIfInBounds_toArray, List.set_cons_zero, List.set_cons_succ]
                        refine wpAnyH_take (i := 36) (v := undef) rfl (by kernel_rfl) (by kernel_rfl) (by kernel_rfl) (fun _ _ _ h => h) (Or.inr ⟨by rfl, rfl⟩) (⟨ux, ub, cn, ce9⟩) ?_
                        try simp only [Act.put, List.getElem_toArray, List.getElem_cons_succ, List.getElem_cons_zero, List.setIfInBounds_toArray, List.set_cons_zero, List.set_cons_succ]
                        refine wpAnyH_take (i := 32) (v := undef) rfl (by kernel_rfl) (by kernel_rfl) (by kernel_rfl) (fun _ _ _ h => h) (Or.inr ⟨by rfl, rfl⟩) (⟨ux, ub, cn, ce9⟩) ?_
                        try simp only [Act.put, List.getElem_toArray, List.getElem_cons_succ, List.getElem_cons_zero, List.setIfInBounds_toArray, List.set_cons_zero, List.set_cons_succ]
                        refine wpAnyH_take (i := 37) (v := undef) rfl (by kernel_rfl) (by kernel_rfl) (by kernel_rfl) (fun _ _ _ h => h) (Or.inr ⟨by rfl, rfl⟩) (⟨ux, ub, cn, ce9⟩) ?_
                        try simp only [Act.put, List.getElem_toArray, List.getElem_cons_succ, List.getElem_cons_zero, List.setIfInBounds_toArray, List.set_cons_zero, List.set_cons_succ]
                        refine wpAnyH_take (i := 38) (v := .bool false) rfl (by kernel_rfl) (by kernel_rfl) (by kernel_rfl) (fun _ _ _ h => h) (Or.inl ⟨by rfl, fun W _ => by go_simp⟩) (⟨ux, ub, cn, ce9⟩) ?_
                        try simp only [Act.put, List.getElem_toArray, List.getElem_cons_succ, List.getElem_cons_zero, List.setIfInBounds_toArray, List.set_cons_zero, List.set_cons_succ]
                        refine wpAnyH_take (i := 39) (v := .bool false) rfl (by kernel_rfl) (by kernel_rfl) (by kernel_rfl) (fun _ _ _ h => h) (Or.inl ⟨by rfl, fun W _ => by go_simp⟩) (⟨ux, ub, cn, ce9⟩) ?_
                        try simp only [Act.put, List.getElem_toArray, List.getElem_cons_succ, List.getElem_cons_zero, List.setIfInBounds_toArray, List.set_cons_zero, List.set_cons_succ]
                        refine wpAnyH_done (by kernel_rfl) ?_ _
                        clear ux ub cn ce9
                        go_wp2_with fail
                        go_roundg (gk - 1)
                        case measure => omega
                        case rel => exact ⟨k + 1, by omega, by go_num, Lib.hid hBI⟩
                    · have ke1 : decide (e ≤ e') = false := decide_eq_false (by omega)
                      have ke2 : (0 : Int) ≤ (k : Int) - 1 := by omega
                      have ke3 : (k : Int) - 1 < mb := by omega
                      have ke4 : ((k : Int) - 1).toNat = k - 1 := by omega
                      have ke5 : (1 : Int) ≤ (k : Int) := by omega
                      clear hee
                      as_aux_lemma =>
                        refine wp_region_held_drew (S := fun W' => W'.heap[xb]? = some (.cells #[.int .i64 xid, .int .i64 src, .int .i64 dst, .string xty, xpv] 41 (0, 0)) ∧ W'.heap[pb]? = some (.cells #[.slice (some ⟨gn, on, none⟩) n1 kn, .slice pe n2 ke] 25 (0, 0)) ∧ W'.cell? ⟨gn, on + i * 3, none⟩ = some (.int .i64 dst) ∧ W'.cell? ⟨gb, ob + k, none⟩ = some (.int .i64 e) ∧ W'.cell? ⟨gb, ob + (k - 1), none⟩ = some (.int .i64 e')) (by kernel_rfl) ⟨ux, ub, cn, ce9, cp⟩ (fun _ => ?_)
                        replace hBI := hBI.drew
                        replace ux : w9.drew.heap[xb]? = _ := ux
                        replace ub : w9.drew.heap[pb]? = _ := ub
                        replace cn : w9.drew.cell? ⟨gn, on + i * 3, none⟩ = _ := cn
                        replace ce9 : w9.drew.cell? ⟨gb, ob + k, none⟩ = _ := ce9
                        replace cp : w9.drew.cell? ⟨gb, ob + (k - 1), none⟩ = _ := cp
                        generalize w9.drew = wD at *
                        refine wpAnyH_take (i := 0) (v := .bool true) rfl (by kernel_rfl) (by kernel_rfl) (by kernel_rfl) (fun _ _ _ h => h) (Or.inl ⟨by rfl, fun W _ => by go_simp⟩) (⟨ux, ub, cn, ce9, cp⟩) ?_
                        try simp only [Act.put, List.getElem_toArray, List.getElem_cons_succ, List.getElem_cons_zero, List.setIfInBounds_toArray, List.set_cons_zero, List.set_cons_succ]
                        refine wpAnyH_take (i := 1) (v := .bool false) rfl (by kernel_rfl) (by kernel_rfl) (by kernel_rfl) (fun _ _ _ h => h) (Or.inl ⟨by rfl, fun W _ => by go_simp⟩) (⟨ux, ub, cn, ce9, cp⟩) ?_
                        try simp only [Act.put, List.getElem_toArray, List.getElem_cons_succ, List.getElem_cons_zero, List.setIfInBounds_toArray, List.set_cons_zero, List.set_cons_succ]
                        refine wpAnyH_take (i := 2) (v := .bool false) rfl (by kernel_rfl) (by kernel_rfl) (by kernel_rfl) (fun _ _ _ h => h) (Or.inl ⟨by rfl, fun W _ => by go_simp⟩) (⟨ux, ub, cn, ce9, cp⟩) ?_
                        try simp only [Act.put, List.getElem_toArray, List.getElem_cons_succ, List.getElem_cons_zero, List.setIfInBounds_toArray, List.set_cons_zero, List.set_cons_succ]
                        refine wpAnyH_take (i := 3) (v := .pointer (some ⟨xb, 1, none⟩)) rfl (by kernel_rfl) (by kernel_rfl) (by kernel_rfl) (fun _ _ _ h => h) (Or.inl ⟨by rfl, fun W _ => by go_simp⟩) (⟨ux, ub, cn, ce9, cp⟩) ?_
                        try simp only [Act.put, List.getElem_toArray, List.getElem_cons_succ, List.getElem_cons_zero, List.setIfInBounds_toArray, List.set_cons_zero, List.set_cons_succ]
                        refine wpAnyH_take (i := 5) (v := .pointer (some ⟨pb, 0, none⟩)) rfl (by kernel_rfl) (by kernel_rfl) (by kernel_rfl) (fun _ _ _ h => h) (Or.inl ⟨by rfl, fun W _ => by go_simp⟩) (⟨ux, ub, cn, ce9, cp⟩) ?_
                        try simp only [Act.put, List.getElem_toArray, List.getElem_cons_succ, List.getElem_cons_zero, List.setIfInBounds_toArray, List.set_cons_zero, List.set_cons_succ]
                        refine wpAnyH_take (i := 7) (v := .int .i64 (i : Int)) rfl (by kernel_rfl) (by kernel_rfl) (by kernel_rfl) (fun _ _ _ h => h) (Or.inl ⟨by rfl, fun W _ => by go_simp⟩) (⟨ux, ub, cn, ce9, cp⟩) ?_
                        try simp only [Act.put, List.getElem_toArray, List.getElem_cons_succ, List.getElem_cons_zero, List.setIfInBounds_toArray, List.set_cons_zero, List.set_cons_succ]
                        refine wpAnyH_take (i := 4) (v := .int .i64 src) rfl (by kernel_rfl) (by kernel_rfl) (by kernel_rfl) (fun _ _ _ h => h) (Or.inl ⟨by rfl, fun W' h => by have c0 := cell_of h.1 1 rfl; go_simp⟩) (⟨ux, ub, cn, ce9, cp⟩) ?_
                        try simp only [Act.put, List.getElem_toArray, List.getElem_cons_succ, List.getElem_cons_zero, List.setIfInBounds_toArray, List.set_cons_zero, List.set_cons_succ]
                        refine wpAnyH_take (i := 6) (v := .slice (some ⟨gn, on, none⟩) n1 kn) rfl (by kernel_rfl) (by kernel_rfl) (by kernel_rfl) (fun _ _ _ h => h) (Or.inl ⟨by rfl, fun W' h => by have c0 := cell_of h.2.1 0 rfl; go_simp⟩) (⟨ux, ub, cn, ce9, cp⟩) ?_
                        try simp only [Act.put, List.getElem_toArray, List.getElem_cons_succ, List.getElem_cons_zero, List.setIfInBounds_toArray, List.set_cons_zero, List.set_cons_succ]
                        refine wpAnyH_take (i := 8) (v := .pointer (some ⟨gn, on + i * 3, none⟩)) rfl (by kernel_rfl) (by kernel_rfl) (by kernel_rfl) (fun _ _ _ h => h) (Or.inl ⟨by rfl, fun W _ => by go_simp⟩) (⟨ux, ub, cn, ce9, cp⟩) ?_
                        try simp only [Act.put, List.getElem_toArray, List.getElem_cons_succ, List.getElem_cons_zero, List.setIfInBounds_toArray, List.set_cons_zero, List.set_cons_succ]
                        refine wpAnyH_take (i := 9) (v := .pointer (some ⟨gn, on + i * 3, none⟩)) rfl (by kernel_rfl) (by kernel_rfl) (by kernel_rfl) (fun _ _ _ h => h) (Or.inl ⟨by rfl, fun W _ => by go_simp⟩) (⟨ux, ub, cn, ce9, cp⟩) ?_
                        try simp only [Act.put, List.getElem_toArray, List.getElem_cons_succ, List.getElem_cons_zero, List.setIfInBounds_toArray, List.set_cons_zero, List.set_cons_succ]
                        refine wpAnyH_take (i := 10) (v := .int .i64 dst) rfl (by kernel_rfl) (by kernel_rfl) (by kernel_rfl) (fun _ _ _ h => h) (Or.inl ⟨by rfl, fun W' h => by have c0 := h.2.2.1; go_simp⟩) (⟨ux, ub, cn, ce9, cp⟩) ?_
                        try simp only [Act.put, List.getElem_toArray, List.getElem_cons_succ, List.getElem_cons_zero, List.setIfInBounds_toArray, List.set_cons_zero, List.set_cons_succ]
                        refine wpAnyH_take (i := 11) (v := .bool true) rfl (by kernel_rfl) (by kernel_rfl) (by kernel_rfl) (fun _ _ _ h => h) (Or.inl ⟨by rfl, fun W _ => by go_simp⟩) (⟨ux, ub, cn, ce9, cp⟩) ?_
                        try simp only [Act.put, List.getElem_toArray, List.getElem_cons_succ, List.getElem_cons_zero, List.setIfInBounds_toArray, List.set_cons_zero, List.set_cons_succ]
                        refine wpAnyH_take (i := 12) (v := .bool true) rfl (by kernel_rfl) (by kernel_rfl) (by kernel_rfl) (fun _ _ _ h => h) (Or.inl ⟨by rfl, fun W _ => by go_simp⟩) (⟨ux, ub, cn, ce9, cp⟩) ?_
                        try simp only [Act.put, List.getElem_toArray, List.getElem_cons_succ, List.getElem_cons_zero, List.setIfInBounds_toArray, List.set_cons_zero, List.set_cons_succ]
                        refine wpAnyH_take (i := 13) (v := .pointer (some ⟨xb, 2, none⟩)) rfl (by kernel_rfl) (by kernel_rfl) (by kernel_rfl) (fun _ _ _ h => h) (Or.inl ⟨by rfl, fun W _ => by go_simp⟩) (⟨ux, ub, cn, ce9, cp⟩) ?_
                        try simp only [Act.put, List.getElem_toArray, List.getElem_cons_succ, List.getElem_cons_zero, List.setIfInBounds_toArray, List.set_cons_zero, List.set_cons_succ]
                        refine wpAnyH_take (i := 15) (v := .pointer (some ⟨pb, 0, none⟩)) rfl (by kernel_rfl) (by kernel_rfl) (by kernel_rfl) (fun _ _ _ h => h) (Or.inl ⟨by rfl, fun W _ => by go_simp⟩) (⟨ux, ub, cn, ce9, cp⟩) ?_
                        try simp only [Act.put, List.getElem_toArray, List.getElem_cons_succ, List.getElem_cons_zero, List.setIfInBounds_toArray, List.set_cons_zero, List.set_cons_succ]
                        refine wpAnyH_take (i := 17) (v := .int .i64 (i : Int)) rfl (by kernel_rfl) (by kernel_rfl) (by kernel_rfl) (fun _ _ _ h => h) (Or.inl ⟨by rfl, fun W _ => by go_simp⟩) (⟨ux, ub, cn, ce9, cp⟩) ?_
                        try simp only [Act.put, List.getElem_toArray, List.getElem_cons_succ, List.getElem_cons_zero, List.setIfInBounds_toArray, List.set_cons_zero, List.set_cons_succ]
                        refine wpAnyH_take (i := 14) (v := .int .i64 dst) rfl (by kernel_rfl) (by kernel_rfl) (by kernel_rfl) (fun _ _ _ h => h) (Or.inl ⟨by rfl, fun W' h => by have c0 := cell_of h.1 2 rfl; go_simp⟩) (⟨ux, ub, cn, ce9, cp⟩) ?_
                        try simp only [Act.put, List.getElem_toArray, List.getElem_cons_succ, List.getElem_cons_zero, List.setIfInBounds_toArray, List.set_cons_zero, List.set_cons_succ]
                        refine wpAnyH_take (i := 16) (v := .slice (some ⟨gn, on, none⟩) n1 kn) rfl (by kernel_rfl) (by kernel_rfl) (by kernel_rfl) (fun _ _ _ h => h) (Or.inl ⟨by rfl, fun W' h => by have c0 := cell_of h.2.1 0 rfl; go_simp⟩) (⟨ux, ub, cn, ce9, cp⟩) ?_
                        try simp only [Act.put, List.getElem_toArray, List.getElem_cons_succ, List.getElem_cons_zero, List.setIfInBounds_toArray, List.set_cons_zero, List.set_cons_succ]
                        refine wpAnyH_take (i := 18) (v := .pointer (some ⟨gn, on + i * 3, none⟩)) rfl (by kernel_rfl) (by kernel_rfl) (by kernel_rfl) (fun _ _ _ h => h) (Or.inl ⟨by rfl, fun W _ => by go_simp⟩) (⟨ux, ub, cn, ce9, cp⟩) ?_
                        try simp only [Act.put, List.getElem_toArray, List.getElem_cons_succ, List.getElem_cons_zero, List.setIfInBounds_toArray, List.set_cons_zero, List.set_cons_succ]
                        refine wpAnyH_take (i := 19) (v := .pointer (some ⟨gn, on + i * 3, none⟩)) rfl (by kernel_rfl) (by kernel_rfl) (by kernel_rfl) (fun _ _ _ h => h) (Or.inl ⟨by rfl, fun W _ => by go_simp⟩) (⟨ux, ub, cn, ce9, cp⟩) ?_
                        try simp only [Act.put, List.getElem_toArray, List.getElem_cons_succ, List.getElem_cons_zero, List.setIfInBounds_toArray, List.set_cons_zero, List.set_cons_succ]
                        refine wpAnyH_take (i := 20) (v := .int .i64 dst) rfl (by kernel_rfl) (by kernel_rfl) (by kernel_rfl) (fun _ _ _ h => h) (Or.inl ⟨by rfl, fun W' h => by have c0 := h.2.2.1; go_simp⟩) (⟨ux, ub, cn, ce9, cp⟩) ?_
                        try simp only [Act.put, List.getElem_toArray, List.getElem_cons_succ, List.getElem_cons_zero, List.setIfInBounds_toArray, List.set_cons_zero, List.set_cons_succ]
                        refine wpAnyH_take (i := 21) (v := .bool false) rfl (by kernel_rfl) (by kernel_rfl) (by kernel_rfl) (fun _ _ _ h => h) (Or.inl ⟨by rfl, fun W _ => by go_simp⟩) (⟨ux, ub, cn, ce9, cp⟩) ?_
                        try simp only [Act.put, List.getElem_toArray, List.getElem_cons_succ, List.getElem_cons_zero, List.setIfInBounds_toArray, List.set_cons_zero, List.set_cons_succ]
                        refine wpAnyH_take (i := 22) (v := .bool false) rfl (by kernel_rfl) (by kernel_rfl) (by kernel_rfl) (fun _ _ _ h => h) (Or.inl ⟨by rfl, fun W _ => by go_simp⟩) (⟨ux, ub, cn, ce9, cp⟩) ?_
                        try simp only [Act.put, List.getElem_toArray, List.getElem_cons_succ, List.getElem_cons_zero, List.setIfInBounds_toArray, List.set_cons_zero, List.set_cons_succ]
                        refine wpAnyH_take (i := 23) (v := .bool false) rfl (by kernel_rfl) (by kernel_rfl) (by kernel_rfl) (fun _ _ _ h => h) (Or.inl ⟨by rfl, fun W _ => by go_simp⟩) (⟨ux, ub, cn, ce9, cp⟩) ?_
                        try simp only [Act.put, List.getElem_toArray, List.getElem_cons_succ, List.getElem_cons_zero, List.setIfInBounds_toArray, List.set_cons_zero, List.set_cons_succ]
                        refine wpAnyH_take (i := 24) (v := .bool false) rfl (by kernel_rfl) (by kernel_rfl) (by kernel_rfl) (fun _ _ _ h => h) (Or.inl ⟨by rfl, fun W _ => by go_simp⟩) (⟨ux, ub, cn, ce9, cp⟩) ?_
                        try simp only [Act.put, List.getElem_toArray, List.getElem_cons_succ, List.getElem_cons_zero, List.setIfInBounds_toArray, List.set_cons_zero, List.set_cons_succ]
                        refine wpAnyH_take (i := 25) (v := .int .i64 (k : Int)) rfl (by kernel_rfl) (by kernel_rfl) (by kernel_rfl) (fun _ _ _ h => h) (Or.inl ⟨by rfl, fun W _ => by go_simp⟩) (⟨ux, ub, cn, ce9, cp⟩) ?_
                        try simp only [Act.put, List.getElem_toArray, List.getElem_cons_succ, List.getElem_cons_zero, List.setIfInBounds_toArray, List.set_cons_zero, List.set_cons_succ]
                        refine wpAnyH_take (i := 26) (v := .bool true) rfl (by kernel_rfl) (by kernel_rfl) (by kernel_rfl) (fun _ _ _ h => h) (Or.inl ⟨by rfl, fun W _ => by go_simp⟩) (⟨ux, ub, cn, ce9, cp⟩) ?_
                        try simp only [Act.put, List.getElem_toArray, List.getElem_cons_succ, List.getElem_cons_zero, List.setIfInBounds_toArray, List.set_cons_zero, List.set_cons_succ]
                        refine wpAnyH_take (i := 27) (v := .bool true) rfl (by kernel_rfl) (by kernel_rfl) (by kernel_rfl) (fun _ _ _ h => h) (Or.inl ⟨by rfl, fun W _ => by go_simp⟩) (⟨ux, ub, cn, ce9, cp⟩) ?_
                        try simp only [Act.put, List.getElem_toArray, List.getElem_cons_succ, List.getElem_cons_zero, List.setIfInBounds_toArray, List.set_cons_zero, List.set_cons_succ]
                        refine wpAnyH_take (i := 28) (v := .slice (some ⟨gb, ob, none⟩) mb kB) rfl (by kernel_rfl) (by kernel_rfl) (by kernel_rfl) (fun _ _ _ h => h) (Or.inl ⟨by rfl, fun W _ => by go_simp⟩) (⟨ux, ub, cn, ce9, cp⟩) ?_
                        try simp only [Act.put, List.getElem_toArray, List.getElem_cons_succ, List.getElem_cons_zero, List.setIfInBounds_toArray, List.set_cons_zero, List.set_cons_succ]
                        refine wpAnyH_take (i := 29) (v := .int .i64 (k : Int)) rfl (by kernel_rfl) (by kernel_rfl) (by kernel_rfl) (fun _ _ _ h => h) (Or.inl ⟨by rfl, fun W _ => by go_simp⟩) (⟨ux, ub, cn, ce9, cp⟩) ?_
                        try simp only [Act.put, List.getElem_toArray, List.getElem_cons_succ, List.getElem_cons_zero, List.setIfInBounds_toArray, List.set_cons_zero, List.set_cons_succ]
                        refine wpAnyH_take (i := 33) (v := .slice (some ⟨gb, ob, none⟩) mb kB) rfl (by kernel_rfl) (by kernel_rfl) (by kernel_rfl) (fun _ _ _ h => h) (Or.inl ⟨by rfl, fun W _ => by go_simp⟩) (⟨ux, ub, cn, ce9, cp⟩) ?_
                        try simp only [Act.put, List.getElem_toArray, List.getElem_cons_succ, List.getElem_cons_zero, List.setIfInBounds_toArray, List.set_cons_zero, List.set_cons_succ]
                        refine wpAnyH_take (i := 34) (v := .int .i64 (k : Int)) rfl (by kernel_rfl) (by kernel_rfl) (by kernel_rfl) (fun _ _ _ h => h) (Or.inl ⟨by rfl, fun W _ => by go_simp⟩) (⟨ux, ub, cn, ce9, cp⟩) ?_
                        try simp only [Act.put, List.getElem_toArray, List.getElem_cons_succ, List.getElem_cons_zero, List.setIfInBounds_toArray, List.set_cons_zero, List.set_cons_succ]
                        refine wpAnyH_take (i := 30) (v := .int .i64 ((k : Int) - 1)) rfl (by kernel_rfl) (by kernel_rfl) (by kernel_rfl) (fun _ _ _ h => h) (Or.inl ⟨by rfl, fun W _ => by go_simp; exact wrap64_id (by omega) (by omega)⟩) (⟨ux, ub, cn, ce9, cp⟩) ?_
                        try simp only [Act.put, List.getElem_toArray, List.getElem_cons_succ, List.getElem_cons_zero, List.setIfInBounds_toArray, List.set_cons_zero, List.set_cons_succ]
                        refine wpAnyH_take (i := 35) (v := .pointer (some ⟨gb, ob + k, none⟩)) rfl (by kernel_rfl) (by kernel_rfl) (by kernel_rfl) (fun _ _ _ h => h) (Or.inl ⟨by rfl, fun W _ => by go_simp⟩) (⟨ux, ub, cn, ce9, cp⟩) ?_
                        try simp only [Act.put, List.getElem_toArray, List.getElem_cons_succ, List.getElem_cons_zero, List.setIfInBounds_toArray, List.set_cons_zero, List.set_cons_succ]
                        refine wpAnyH_take (i := 31) (v := .pointer (some ⟨gb, ob + (k - 1), none⟩)) rfl (by kernel_rfl) (by kernel_rfl) (by kernel_rfl) (fun _ _ _ h => h) (Or.inl ⟨by rfl, fun W _ => by go_simp⟩) (⟨ux, ub, cn, ce9, cp⟩) ?_
                        try simp only [Act.put, List.getElem_toArray, List.getElem_cons_succ, List.getElem_cons_zero, List.setIfInBounds_toArray, List.set_cons_zero, List.set_cons_succ]
                        refine wpAnyH_take (i := 36) (v := .int .i64 e) rfl (by kernel_rfl) (by kernel_rfl) (by kernel_rfl) (fun _ _ _ h => h) (Or.inl ⟨by rfl, fun W' h => by have c0 := h.2.2.2.1; go_simp⟩) (⟨ux, ub, cn, ce9, cp⟩) ?_
                        try simp only [Act.put, List.getElem_toArray, List.getElem_cons_succ, List.getElem_cons_zero, List.setIfInBounds_toArray, List.set_cons_zero, List.set_cons_succ]
                        refine wpAnyH_take (i := 32) (v := .int .i64 e') rfl (by kernel_rfl) (by kernel_rfl) (by kernel_rfl) (fun _ _ _ h => h) (Or.inl ⟨by rfl, fun W' h => by have c0 := h.2.2.2.2; go_simp⟩) (⟨ux, ub, cn, ce9, cp⟩) ?_
                        try simp only [Act.put, List.getElem_toArray, List.getElem_cons_succ, List.getElem_cons_zero, List.setIfInBounds_toArray, List.set_cons_zero, List.set_cons_succ]
                        refine wpAnyH_take (i := 37) (v := .bool false) rfl (by kernel_rfl) (by kernel_rfl) (by kernel_rfl) (fun _ _ _ h => h) (Or.inl ⟨by rfl, fun W _ => by go_simp⟩) (⟨ux, ub, cn, ce9, cp⟩) ?_
                        try simp only [Act.put, List.getElem_toArray, List.getElem_cons_succ, List.getElem_cons_zero, List.setIfInBounds_toArray, List.set_cons_zero, List.set_cons_succ]
                        refine wpAnyH_take (i := 38) (v := .bool false) rfl (by kernel_rfl) (by kernel_rfl) (by kernel_rfl) (fun _ _ _ h => h) (Or.inl ⟨by rfl, fun W _ => by go_simp⟩) (⟨ux, ub, cn, ce9, cp⟩) ?_
                        try simp only [Act.put, List.getElem_toArray, List.getElem_cons_succ, List.getElem_cons_zero, List.setIfInBounds_toArray, List.set_cons_zero, List.set_cons_succ]
                        refine wpAnyH_take (i := 39) (v := .bool false) rfl (by kernel_rfl) (by kernel_rfl) (by kernel_rfl) (fun _ _ _ h => h) (Or.inl ⟨by rfl, fun W _ => by go_simp⟩) (⟨ux, ub, cn, ce9, cp⟩) ?_
                        try simp only [Act.put, List.getElem_toArray, List.getElem_cons_succ, List.getElem_cons_zero, List.setIfInBounds_toArray, List.set_cons_zero, List.set_cons_succ]
                        refine wpAnyH_done (by kernel_rfl) ?_ _
                        clear ux ub cn ce9 cp
                        go_wp2_with fail
                        go_roundg (gk - 1)
                        case measure => omega
                        case rel => exact ⟨k + 1, by omega, by go_num, Lib.hid hBI⟩
                · go_wp2_with fail
                  go_meet
                  case rel => exact HI
            case rest =>
              have HBI := hcut
              clear hcut
              have hB9 := below_any HBC.out HBI.out HBC.out.size
              have hR9 := HRN.out.below hB9
              have ub := hR9.box
              have cn := cell_below HCN.out HBI.out
              by_cases hi0 : i = 0
              · have kz1 : decide (0 < i) = false := decide_eq_false (by omega)
                have kz2 : ¬ (0 < i) := by omega
                have HZ := Lib.hid (And.intro bn1 bn2)
                clear hi0
                as_aux_lemma =>
                  go_upto_region 27 with fail
                  refine wp_region_held_drew (S := fun W' => W'.heap[pb]? = some (.cells #[.slice (some ⟨gn, on, none⟩) n1 kn, .slice pe n2 ke] 25 (0, 0)) ∧ W'.cell? ⟨gn, on + i * 3, none⟩ = some (.int .i64 n)) (by kernel_rfl) ⟨ub, cn⟩ (fun _ => ?_)
                  replace hB9 := hB9.drew
                  have hBR := (below_any HBC.out HBI.out HBC.out.size).drew
                  clear hR9
                  replace ub : wc.drew.heap[pb]? = _ := ub
                  replace cn : wc.drew.cell? ⟨gn, on + i * 3, none⟩ = _ := cn
                  generalize wc.drew = wD at *
                  refine wpAnyH_take (i := 0) (v := .int .i64 (i : Int)) rfl (by kernel_rfl) (by kernel_rfl) (by kernel_rfl) (fun _ _ _ h => h) (Or.inl ⟨by rfl, fun W _ => by go_simp⟩) (⟨ub, cn⟩) ?_
                  try simp only [Act.put, List.getElem_toArray, List.getElem_cons_succ, List.getElem_cons_zero, List.setIfInBounds_toArray, List.set_cons_zero, List.set_cons_succ]
                  refine wpAnyH_take (i := 1) (v := .bool false) rfl (by kernel_rfl) (by kernel_rfl) (by kernel_rfl) (fun _ _ _ h => h) (Or.inl ⟨by rfl, fun W _ => by go_simp⟩) (⟨ub, cn⟩) ?_
                  try simp only [Act.put, List.getElem_toArray, List.getElem_cons_succ, List.getElem_cons_zero, List.setIfInBounds_toArray, List.set_cons_zero, List.set_cons_succ]
                  refine wpAnyH_take (i := 2) (v := .bool false) rfl (by kernel_rfl) (by kernel_rfl) (by kernel_rfl) (fun _ _ _ h => h) (Or.inl ⟨by rfl, fun W _ => by go_simp⟩) (⟨ub, cn⟩) ?_
                  try simp only [Act.put, List.getElem_toArray, List.getElem_cons_succ, List.getElem_cons_zero, List.setIfInBounds_toArray, List.set_cons_zero, List.set_cons_succ]
                  refine wpAnyH_take (i := 3) (v := undef) rfl (by kernel_rfl) (by kernel_rfl) (by kernel_rfl) (fun _ _ _ h => h) (Or.inr ⟨by rfl, rfl⟩) (⟨ub, cn⟩) ?_
                  try simp only [Act.put, List.getElem_toArray, List.getElem_cons_succ, List.getElem_cons_zero, List.setIfInBounds_toArray, List.set_cons_zero, List.set_cons_succ]
                  refine wpAnyH_take (i := 5) (v := undef) rfl (by kernel_rfl) (by kernel_rfl) (by kernel_rfl) (fun _ _ _ h => h) (Or.inr ⟨by rfl, rfl⟩) (⟨ub, cn⟩) ?_
                  try simp only [Act.put, List.getElem_toArray, List.getElem_cons_succ, List.getElem_cons_zero, List.setIfInBounds_toArray, List.set_cons_zero, List.set_cons_succ]
                  refine wpAnyH_take (i := 10) (v := undef) rfl (by kernel_rfl) (by kernel_rfl) (by kernel_rfl) (fun _ _ _ h => h) (Or.inr ⟨by rfl, rfl⟩) (⟨ub, cn⟩) ?_
                  try simp only [Act.put, List.getElem_toArray, List.getElem_cons_succ, List.getElem_cons_zero, List.setIfInBounds_toArray, List.set_cons_zero, List.set_cons_succ]
                  refine wpAnyH_take (i := 12) (v := undef) rfl (by kernel_rfl) (by kernel_rfl) (by kernel_rfl) (fun _ _ _ h => h) (Or.inr ⟨by rfl, rfl⟩) (⟨ub, cn⟩) ?_
                  try simp only [Act.put, List.getElem_toArray, List.getElem_cons_succ, List.getElem_cons_zero, List.setIfInBounds_toArray, List.set_cons_zero, List.set_cons_succ]
                  refine wpAnyH_take (i := 4) (v := undef) rfl (by kernel_rfl) (by kernel_rfl) (by kernel_rfl) (fun _ _ _ h => h) (Or.inr ⟨by rfl, rfl⟩) (⟨ub, cn⟩) ?_
                  try simp only [Act.put, List.getElem_toArray, List.getElem_cons_succ, List.getElem_cons_zero, List.setIfInBounds_toArray, List.set_cons_zero, List.set_cons_succ]
                  refine wpAnyH_take (i := 6) (v := undef) rfl (by kernel_rfl) (by kernel_rfl) (by kernel_rfl) (fun _ _ _ h => h) (Or.inr ⟨by rfl, rfl⟩) (⟨ub, cn⟩) ?_
                  try simp only [Act.put, List.getElem_toArray, List.getElem_cons_succ, List.getElem_cons_zero, List.setIfInBounds_toArray, List.set_cons_zero, List.set_cons_succ]
                  refine wpAnyH_take (i := 11) (v := undef) rfl (by kernel_rfl) (by kernel_rfl) (by kernel_rfl) (fun _ _ _ h => h) (Or.inr ⟨by rfl, rfl⟩) (⟨ub, cn⟩) ?_
                  try simp only [Act.put, List.getElem_toArray, List.getElem_cons_succ, List.getElem_cons_zero, List.setIfInBounds_toArray, List.set_cons_zero, List.set_cons_succ]
                  refine wpAnyH_take (i := 7) (v := undef) rfl (by kernel_rfl) (by kernel_rfl) (by kernel_rfl) (fun _ _ _ h => h) (Or.inr ⟨by rfl, rfl⟩) (⟨ub, cn⟩) ?_
                  try simp only [Act.put, List.getElem_toArray, List.getElem_cons_succ, List.getElem_cons_zero, List.setIfInBounds_toArray, List.set_cons_zero, List.set_cons_succ]
                  refine wpAnyH_take (i := 13) (v := undef) rfl (by kernel_rfl) (by kernel_rfl) (by kernel_rfl) (fun _ _ _ h => h) (Or.inr ⟨by rfl, rfl⟩) (⟨ub, cn⟩) ?_
                  try simp only [Act.put, List.getElem_toArray, List.getElem_cons_succ, List.getElem_cons_zero, List.setIfInBounds_toArray, List.set_cons_zero, List.set_cons_succ]
                  refine wpAnyH_take (i := 8) (v := undef) rfl (by kernel_rfl) (by kernel_rfl) (by kernel_rfl) (fun _ _ _ h => h) (Or.inr ⟨by rfl, rfl⟩) (⟨ub, cn⟩) ?_
                  try simp only [Act.put, List.getElem_toArray, List.getElem_cons_succ, List.getElem_cons_zero, List.setIfInBounds_toArray, List.set_cons_zero, List.set_cons_succ]
                  refine wpAnyH_take (i := 14) (v := undef) rfl (by kernel_rfl) (by kernel_rfl) (by kernel_rfl) (fun _ _ _ h => h) (Or.inr ⟨by rfl, rfl⟩) (⟨ub, cn⟩) ?_
                  try simp only [Act.put, List.getElem_toArray, List.getElem_cons_succ, List.getElem_cons_zero, List.setIfInBounds_toArray, List.set_cons_zero, List.set_cons_succ]
                  refine wpAnyH_take (i := 9) (v := undef) rfl (by kernel_rfl) (by kernel_rfl) (by kernel_rfl) (fun _ _ _ h => h) (Or.inr ⟨by rfl, rfl⟩) (⟨ub, cn⟩) ?_
                  try simp only [Act.put, List.getElem_toArray, List.getElem_cons_succ, List.getElem_cons_zero, List.setIfInBounds_toArray, List.set_cons_zero, List.set_cons_succ]
                  refine wpAnyH_take (i := 15) (v := undef) rfl (by kernel_rfl) (by kernel_rfl) (by kernel_rfl) (fun _ _ _ h => h) (Or.inr ⟨by rfl, rfl⟩) (⟨ub, cn⟩) ?_
                  try simp only [Act.put, List.getElem_toArray, List.getElem_cons_succ, List.getElem_cons_zero, List.setIfInBounds_toArray, List.set_cons_zero, List.set_cons_succ]
                  refine wpAnyH_take (i := 16) (v := undef) rfl (by kernel_rfl) (by kernel_rfl) (by kernel_rfl) (fun _ _ _ h => h) (Or.inr ⟨by rfl, rfl⟩) (⟨ub, cn⟩) ?_
                  try simp only [Act.put, List.getElem_toArray, List.getElem_cons_succ, List.getElem_cons_zero, List.setIfInBounds_toArray, List.set_cons_zero, List.set_cons_succ]
                  refine wpAnyH_take (i := 17) (v := .bool false) rfl (by kernel_rfl) (by kernel_rfl) (by kernel_rfl) (fun _ _ _ h => h) (Or.inl ⟨by rfl, fun W _ => by go_simp⟩) (⟨ub, cn⟩) ?_
                  try simp only [Act.put, List.getElem_toArray, List.getElem_cons_succ, List.getElem_cons_zero, List.setIfInBounds_toArray, List.set_cons_zero, List.set_cons_succ]
                  refine wpAnyH_done (by kernel_rfl) ?_ _
                  clear ub cn
                  go_wp2_with fail
                  go_roundg (n1 - (i + 1))
                  case measure => omega
                  case rel => exact ⟨i + 1, bb + mo, be + mi, by omega, by go_num, by go_num, by go_num, HZ.out.1, HZ.out.2, HS, Lib.hid hBR⟩
              · have hi3 : i - 1 < (plainG g).nodes.length := by rw [plainG_nodes]; have := HL.out.1; omega
                have hi4 : i - 1 < (numsN g).length := by rw [numsN_len]; have := HL.out.1; omega
                obtain ⟨gn2, on2, kn2, c2, e0, _, hrl2, hra2⟩ := hR9.ns.at_ (i - 1) hi3
                injection e0 with e1 e2 e3
                injection e1 with e1
                injection e1 with e11 e12 _
                subst e11 e12
                obtain ⟨n', hn'⟩ : ∃ n', n' = (numsN g)[i - 1] := ⟨_, rfl⟩
                have hid2 : (plainG g).nodes[i - 1].id = n' := by
                  have e : (plainG g).nodes[i - 1] = nodeAt g (numsN g)[i - 1] := List.getElem_map ..
                  rw [e, hn']
                  exact nodeAt_id HGG.out _ (List.getElem_mem hi4)
                obtain ⟨lv2, pv2, rfl, hrest2⟩ := hrl2
                clear hrest2
                rw [hid2] at hra2
                have cp : wc.cell? ⟨gn, on + (i - 1) * 3, none⟩ = some (.int .i64 n') := by have := hra2 0 _ rfl; simpa [nodeE] using this
                have hnn : n' < n := by
                  obtain ⟨hi5, he5⟩ := List.getElem?_eq_some_iff.1 HNE.out
                  rw [hn', ← he5]
                  exact List.pairwise_iff_getElem.1 (rise_N HGG.out) (i - 1) i hi4 hi5 (by omega)
                have hip : 0 < i := by omega
                have ke1 : decide (n ≤ n') = false := decide_eq_false (by omega)
                have ke2 : (0 : Int) ≤ (i : Int) - 1 := by omega
                have ke3 : (i : Int) - 1 < n1 := by omega
                have ke4 : ((i : Int) - 1).toNat = i - 1 := by omega
                have ke5 : (1 : Int) ≤ (i : Int) := by omega
                have HZ := Lib.hid (And.intro bn1 bn2)
                clear hi0 hi3 hi4 e2 e3 hn' hid2 hra2 hnn
                as_aux_lemma =>
                  go_upto_region 27 with fail
                  refine wp_region_held_drew (S := fun W' => W'.heap[pb]? = some (.cells #[.slice (some ⟨gn, on, none⟩) n1 kn, .slice pe n2 ke] 25 (0, 0)) ∧ W'.cell? ⟨gn, on + i * 3, none⟩ = some (.int .i64 n) ∧ W'.cell? ⟨gn, on + (i - 1) * 3, none⟩ = some (.int .i64 n')) (by kernel_rfl) ⟨ub, cn, cp⟩ (fun _ => ?_)
                  replace hB9 := hB9.drew
                  have hBR := (below_any HBC.out HBI.out HBC.out.size).drew
                  clear hR9
                  replace ub : wc.drew.heap[pb]? = _ := ub
                  replace cn : wc.drew.cell? ⟨gn, on + i * 3, none⟩ = _ := cn
                  replace cp : wc.drew.cell? ⟨gn, on + (i - 1) * 3, none⟩ = _ := cp
                  generalize wc.drew = wD at *
                  refine wpAnyH_take (i := 0) (v := .int .i64 (i : Int)) rfl (by kernel_rfl) (by kernel_rfl) (by kernel_rfl) (fun _ _ _ h => h) (Or.inl ⟨by rfl, fun W _ => by go_simp⟩) (⟨ub, cn, cp⟩) ?_
                  try simp only [Act.put, List.getElem_toArray, List.getElem_cons_succ, List.getElem_cons_zero, List.setIfInBounds_toArray, List.set_cons_zero, List.set_cons_succ]
                  refine wpAnyH_take (i := 1) (v := .bool true) rfl (by kernel_rfl) (by kernel_rfl) (by kernel_rfl) (fun _ _ _ h => h) (Or.inl ⟨by rfl, fun W _ => by go_simp⟩) (⟨ub, cn, cp⟩) ?_
                  try simp only [Act.put, List.getElem_toArray, List.getElem_cons_succ, List.getElem_cons_zero, List.setIfInBounds_toArray, List.set_cons_zero, List.set_cons_succ]
                  refine wpAnyH_take (i := 2) (v := .bool true) rfl (by kernel_rfl) (by kernel_rfl) (by kernel_rfl) (fun _ _ _ h => h) (Or.inl ⟨by rfl, fun W _ => by go_simp⟩) (⟨ub, cn, cp⟩) ?_
                  try simp only [Act.put, List.getElem_toArray, List.getElem_cons_succ, List.getElem_cons_zero, List.setIfInBounds_toArray, List.set_cons_zero, List.set_cons_succ]
                  refine wpAnyH_take (i := 3) (v := .pointer (some ⟨pb, 0, none⟩)) rfl (by kernel_rfl) (by kernel_rfl) (by kernel_rfl) (fun _ _ _ h => h) (Or.inl ⟨by rfl, fun W _ => by go_simp⟩) (⟨ub, cn, cp⟩) ?_
                  try simp only [Act.put, List.getElem_toArray, List.getElem_cons_succ, List.getElem_cons_zero, List.setIfInBounds_toArray, List.set_cons_zero, List.set_cons_succ]
                  refine wpAnyH_take (i := 5) (v := .int .i64 (i : Int)) rfl (by kernel_rfl) (by kernel_rfl) (by kernel_rfl) (fun _ _ _ h => h) (Or.inl ⟨by rfl, fun W _ => by go_simp⟩) (⟨ub, cn, cp⟩) ?_
                  try simp only [Act.put, List.getElem_toArray, List.getElem_cons_succ, List.getElem_cons_zero, List.setIfInBounds_toArray, List.set_cons_zero, List.set_cons_succ]
                  refine wpAnyH_take (i := 10) (v := .pointer (some ⟨pb, 0, none⟩)) rfl (by kernel_rfl) (by kernel_rfl) (by kernel_rfl) (fun _ _ _ h => h) (Or.inl ⟨by rfl, fun W _ => by go_simp⟩) (⟨ub, cn, cp⟩) ?_
                  try simp only [Act.put, List.getElem_toArray, List.getElem_cons_succ, List.getElem_cons_zero, List.setIfInBounds_toArray, List.set_cons_zero, List.set_cons_succ]
                  refine wpAnyH_take (i := 12) (v := .int .i64 (i : Int)) rfl (by kernel_rfl) (by kernel_rfl) (by kernel_rfl) (fun _ _ _ h => h) (Or.inl ⟨by rfl, fun W _ => by go_simp⟩) (⟨ub, cn, cp⟩) ?_
                  try simp only [Act.put, List.getElem_toArray, List.getElem_cons_succ, List.getElem_cons_zero, List.setIfInBounds_toArray, List.set_cons_zero, List.set_cons_succ]
                  refine wpAnyH_take (i := 4) (v := .slice (some ⟨gn, on, none⟩) n1 kn) rfl (by kernel_rfl) (by kernel_rfl) (by kernel_rfl) (fun _ _ _ h => h) (Or.inl ⟨by rfl, fun W' h => by have c0 := cell_of h.1 0 rfl; go_simp⟩) (⟨ub, cn, cp⟩) ?_
                  try simp only [Act.put, List.getElem_toArray, List.getElem_cons_succ, List.getElem_cons_zero, List.setIfInBounds_toArray, List.set_cons_zero, List.set_cons_succ]
                  refine wpAnyH_take (i := 6) (v := .int .i64 ((i : Int) - 1)) rfl (by kernel_rfl) (by kernel_rfl) (by kernel_rfl) (fun _ _ _ h => h) (Or.inl ⟨by rfl, fun W _ => by go_simp; exact wrap64_id (by omega) (by omega)⟩) (⟨ub, cn, cp⟩) ?_
                  try simp only [Act.put, List.getElem_toArray, List.getElem_cons_succ, List.getElem_cons_zero, List.setIfInBounds_toArray, List.set_cons_zero, List.set_cons_succ]
                  refine wpAnyH_take (i := 11) (v := .slice (some ⟨gn, on, none⟩) n1 kn) rfl (by kernel_rfl) (by kernel_rfl) (by kernel_rfl) (fun _ _ _ h => h) (Or.inl ⟨by rfl, fun W' h => by have c0 := cell_of h.1 0 rfl; go_simp⟩) (⟨ub, cn, cp⟩) ?_
                  try simp only [Act.put, List.getElem_toArray, List.getElem_cons_succ, List.getElem_cons_zero, List.setIfInBounds_toArray, List.set_cons_zero, List.set_cons_succ]
                  refine wpAnyH_take (i := 7) (v := .pointer (some ⟨gn, on + (i - 1) * 3, none⟩)) rfl (by kernel_rfl) (by kernel_rfl) (by kernel_rfl) (fun _ _ _ h => h) (Or.inl ⟨by rfl, fun W _ => by go_simp⟩) (⟨ub, cn, cp⟩) ?_
                  try simp only [Act.put, List.getElem_toArray, List.getElem_cons_succ, List.getElem_cons_zero, List.setIfInBounds_toArray, List.set_cons_zero, List.set_cons_succ]
                  refine wpAnyH_take (i := 13) (v := .pointer (some ⟨gn, on + i * 3, none⟩)) rfl (by kernel_rfl) (by kernel_rfl) (by kernel_rfl) (fun _ _ _ h => h) (Or.inl ⟨by rfl, fun W _ => by go_simp⟩) (⟨ub, cn, cp⟩) ?_
                  try simp only [Act.put, List.getElem_toArray, List.getElem_cons_succ, List.getElem_cons_zero, List.setIfInBounds_toArray, List.set_cons_zero, List.set_cons_succ]
                  refine wpAnyH_take (i := 8) (v := .pointer (some ⟨gn, on + (i - 1) * 3, none⟩)) rfl (by kernel_rfl) (by kernel_rfl) (by kernel_rfl) (fun _ _ _ h => h) (Or.inl ⟨by rfl, fun W _ => by go_simp⟩) (⟨ub, cn, cp⟩) ?_
                  try simp only [Act.put, List.getElem_toArray, List.getElem_cons_succ, List.getElem_cons_zero, List.setIfInBounds_toArray, List.set_cons_zero, List.set_cons_succ]
                  refine wpAnyH_take (i := 14) (v := .pointer (some ⟨gn, on + i * 3, none⟩)) rfl (by kernel_rfl) (by kernel_rfl) (by kernel_rfl) (fun _ _ _ h => h) (Or.inl ⟨by rfl, fun W _ => by go_simp⟩) (⟨ub, cn, cp⟩) ?_
                  try simp only [Act.put, List.getElem_toArray, List.getElem_cons_succ, List.getElem_cons_zero, List.setIfInBounds_toArray, List.set_cons_zero, List.set_cons_succ]
                  refine wpAnyH_take (i := 9) (v := .int .i64 n') rfl (by kernel_rfl) (by kernel_rfl) (by kernel_rfl) (fun _ _ _ h => h) (Or.inl ⟨by rfl, fun W' h => by have c0 := h.2.2; go_simp⟩) (⟨ub, cn, cp⟩) ?_
                  try simp only [Act.put, List.getElem_toArray, List.getElem_cons_succ, List.getElem_cons_zero, List.setIfInBounds_toArray, List.set_cons_zero, List.set_cons_succ]
                  refine wpAnyH_take (i := 15) (v := .int .i64 n) rfl (by kernel_rfl) (by kernel_rfl) (by kernel_rfl) (fun _ _ _ h => h) (Or.inl ⟨by rfl, fun W' h => by have c0 := h.2.1; go_simp⟩) (⟨ub, cn, cp⟩) ?_
                  try simp only [Act.put, List.getElem_toArray, List.getElem_cons_succ, List.getElem_cons_zero, List.setIfInBounds_toArray, List.set_cons_zero, List.set_cons_succ]
                  refine wpAnyH_take (i := 16) (v := .bool false) rfl (by kernel_rfl) (by kernel_rfl) (by kernel_rfl) (fun _ _ _ h => h) (Or.inl ⟨by rfl, fun W _ => by go_simp⟩) (⟨ub, cn, cp⟩) ?_
                  try simp only [Act.put, List.getElem_toArray, List.getElem_cons_succ, List.getElem_cons_zero, List.setIfInBounds_toArray, List.set_cons_zero, List.set_cons_succ]
                  refine wpAnyH_take (i := 17) (v := .bool false) rfl (by kernel_rfl) (by kernel_rfl) (by kernel_rfl) (fun _ _ _ h => h) (Or.inl ⟨by rfl, fun W _ => by go_simp⟩) (⟨ub, cn, cp⟩) ?_
                  try simp only [Act.put, List.getElem_toArray, List.getElem_cons_succ, List.getElem_cons_zero, List.setIfInBounds_toArray, List.set_cons_zero, List.set_cons_succ]
                  refine wpAnyH_done (by kernel_rfl) ?_ _
                  clear ub cn cp
                  go_wp2_with fail
                  go_roundg (n1 - (i + 1))
                  case measure => omega
                  case rel => exact ⟨i + 1, bb + mo, be + mi, by omega, by go_num, by go_num, by go_num, HZ.out.1, HZ.out.2, HS, Lib.hid hBR⟩
          · have hbb' : bb = n2 := by
              have e : (numsN g).take i = (numsN g).take (numsN g).length := by rw [numsN_len]; congr 1; have := HL.out.1; omega
              rw [HC.out.1, e, count_all (fun e => (edgeAt g e).src) (numsN g) (numsE g) (fun e he => by
                obtain ⟨a, ha, rfl⟩ := List.mem_map.1 ((numsE_mem g e).1 he)
                rw [edgeAt_eq HGG.out.de ha]
                exact (numsN_mem g _).2 (HGG.out.ekeys a ha).2.2.2.1), numsE_len]
              exact HL.out.2.symm
            have hbe' : be = n2 := by
              have e : (numsN g).take i = (numsN g).take (numsN g).length := by rw [numsN_len]; congr 1; have := HL.out.1; omega
              rw [HC.out.2, e, count_all (fun e => (edgeAt g e).dst) (numsN g) (numsE g) (fun e he => by
                obtain ⟨a, ha, rfl⟩ := List.mem_map.1 ((numsE_mem g e).1 he)
                rw [edgeAt_eq HGG.out.de ha]
                exact (numsN_mem g _).2 (HGG.out.ekeys a ha).2.2.2.2), numsE_len]
              exact HL.out.2.symm
            clear hbb hbe
            subst hbb' hbe'
            go_wp2_with fail
            go_meet
            case rel => exact ⟨rfl, rfl, HB⟩
      case rest =>
        obtain ⟨rfl, rfl, HB0⟩ := hcut
        go_wp2_with fail
        go_loopg [16] n2 (fun gg s16 wr => ∃ j : Nat, j + gg = n2 ∧ s16 = .int .i64 j ∧ Hid (Below w7.heap.size w7 wr))
        case atStart => exact ⟨0, by omega, rfl, HB0⟩
        case round =>
          obtain ⟨j, hjg, rfl, HB⟩ := hrel
          have hR := HRN.out.below HB.out
          have c1 := cell_of hR.box 1 rfl
          by_cases hj : (j : Int) < n2
          · have hj1 : j < (numsE g).length := by rw [numsE_len]; have := HL.out.2; omega
            have hj2 : j < (plainG g).edges.length := by rw [plainG_edges]; have := HL.out.2; omega
            obtain ⟨ge, oe, ke', c, e0, hge, hrl, hra⟩ := hR.es.at_ j hj2
            injection e0 with e1 e2 e3
            subst e1
            replace hra : wr.rangeAt ge (oe + j * 5) c := hra
            obtain ⟨e, hee⟩ : ∃ e, e = (numsE g)[j] := ⟨_, rfl⟩
            have hem : e ∈ numsE g := by rw [hee]; exact List.getElem_mem hj1
            have hed : (plainG g).edges[j] = edgeAt g e := by
              rw [hee]
              exact List.getElem_map ..
            rw [hed] at hrl
            obtain ⟨pv, rfl, ⟨hwe, hws, hwd⟩, hts, hpl, hpv⟩ := hrl
            rw [edgeAt_id HGG.out e hem] at hra
            obtain ⟨pp, pc, rfl⟩ := hpv.slice
            obtain ⟨src, hsrc⟩ : ∃ x, x = (edgeAt g e).src := ⟨_, rfl⟩
            obtain ⟨dst, hdst⟩ : ∃ x, x = (edgeAt g e).dst := ⟨_, rfl⟩
            obtain ⟨ty, hty⟩ : ∃ x, x = (edgeAt g e).type := ⟨_, rfl⟩
            obtain ⟨mp, hmp⟩ : ∃ x, x = (edgeAt g e).props.length := ⟨_, rfl⟩
            rw [← hsrc, ← hdst, ← hty, ← hmp] at hra
            rw [← hsrc] at hws
            rw [← hdst] at hwd
            rw [← hty] at hts
            have w1 : (Lit.int .i64 src).wf = true ∧ (Lit.int .i64 1).wf = true := ⟨hws, by decide⟩
            have w2' : (Lit.int .i64 dst).wf = true ∧ (Lit.int .i64 (-1)).wf = true := ⟨hwd, by decide⟩
            have w3' : (Lit.int .i64 dst).wf = true ∧ (Lit.int .i64 0).wf = true := ⟨hwd, by decide⟩
            have w4' : (Lit.int .i64 src).wf = true ∧ (Lit.int .i64 0).wf = true := ⟨hws, by decide⟩
            obtain ⟨l1, h1⟩ : ∃ l, l = hopsL g ⟨(src, 1), w1⟩ [] := ⟨_, rfl⟩
            obtain ⟨l2, h2⟩ : ∃ l, l = hopsL g ⟨(dst, -1), w2'⟩ [] := ⟨_, rfl⟩
            obtain ⟨l3, h3⟩ : ∃ l, l = hopsL g ⟨(dst, 0), w3'⟩ [⟨#[]⟩, ty] := ⟨_, rfl⟩
            obtain ⟨l4, h4⟩ : ∃ l, l = hopsL g ⟨(src, 0), w4'⟩ [ty ++ ⟨#[120]⟩] := ⟨_, rfl⟩
            have g1 : l1.contains e = true := by
              rw [List.contains_iff_mem, h1, hops_out HGG.out HWF.out, List.mem_filter]
              exact ⟨hem, by simp [hsrc]⟩
            have g2 : l2.contains e = true := by
              rw [List.contains_iff_mem, h2, hops_in HGG.out HWF.out, List.mem_filter]
              exact ⟨hem, by simp [hdst]⟩
            have g3 : l3.contains e = true := by
              rw [List.contains_iff_mem, h3, mem_hops HGG.out HWF.out _ _ (by simp) e hem]
              exact ⟨(ways_both _ _ _).2 (.inr hdst.symm), by simp [hty]⟩
            have g4 : l4.contains e = false := by
              rw [Bool.eq_false_iff]
              intro q
              rw [List.contains_iff_mem, h4, mem_hops HGG.out HWF.out _ _ (by simp) e hem] at q
              have q2 := q.2
              rw [← hty, List.mem_singleton] at q2
              exact text_x ty q2
            have HQ1 : Hid (∀ W', StoreE W' s g → Calls Tryz.prog 23 #[.pointer (some ⟨s, 0, none⟩), .int .i64 src, .int .i64 1, .slice none 0 0] W' (LabPost W' l1)) := Lib.hid fun W' h => by rw [h1]; exact askHopV W' s g h HGG.out src 1 w1 _ [] (strs_nil W') (by simp)
            have HQ2 : Hid (∀ W', StoreE W' s g → Calls Tryz.prog 23 #[.pointer (some ⟨s, 0, none⟩), .int .i64 dst, .int .i64 (-1), .slice none 0 0] W' (LabPost W' l2)) := Lib.hid fun W' h => by rw [h2]; exact askHopV W' s g h HGG.out dst (-1) w2' _ [] (strs_nil W') (by simp)
            have HQ3 : Hid (∀ W' v, StoreE W' s g → StrsAt W' v [⟨#[]⟩, ty] → Calls Tryz.prog 23 #[.pointer (some ⟨s, 0, none⟩), .int .i64 dst, .int .i64 0, v] W' (LabPost W' l3)) := Lib.hid fun W' v h hv => by rw [h3]; exact askHopV W' s g h HGG.out dst 0 w3' v _ hv (by simp)
            have HQ4 : Hid (∀ W' v, StoreE W' s g → StrsAt W' v [ty ++ ⟨#[120]⟩] → Calls Tryz.prog 23 #[.pointer (some ⟨s, 0, none⟩), .int .i64 src, .int .i64 0, v] W' (LabPost W' l4)) := Lib.hid fun W' v h hv => by rw [h4]; exact askHopV W' s g h HGG.out src 0 w4' v _ hv (by simp)
            have L1 : l1.length ≤ 65536 := by rw [h1]; exact Nat.le_trans (hopsL_len g _ _) HGG.out.ne
            have L2 : l2.length ≤ 65536 := by rw [h2]; exact Nat.le_trans (hopsL_len g _ _) HGG.out.ne
            have L3 : l3.length ≤ 65536 := by rw [h3]; exact Nat.le_trans (hopsL_len g _ _) HGG.out.ne
            have L4 : l4.length ≤ 65536 := by rw [h4]; exact Nat.le_trans (hopsL_len g _ _) HGG.out.ne
            have HGC := Lib.hid (And.intro g1 (And.intro g2 (And.intro g3 g4)))
            have HGL := Lib.hid (And.intro L1 (And.intro L2 (And.intro L3 L4)))
            have HTS := Lib.hid hts
            have HRR := Lib.hid hR
            replace hra : wr.rangeAt ge (oe + j * 5) [.int .i64 e, .int .i64 src, .int .i64 dst, .string ty, .slice pp mp pc] := hra
            clear e2 e3 hee hem hed hwe hws hwd hts hpl hpv hsrc hdst hty hmp w1 w2' w3' w4' h1 h2 h3 h4 g1 g2 g3 g4 L1 L2 L3 L4 hR hj1 hj2
            go_upto_region 33 with (first
              | ((with_reducible refine wpList_loadE (.tmp 224) ge (oe + j * 5) 41 [.int .i64 e, .int .i64 src, .int .i64 dst, .string ty, .slice pp mp pc] 5 _ hra rfl Tryz.underlying41 rfl size_edgeE ?_ ?_ ?_ ?_); rfl; rfl; rfl)
              | ((with_reducible refine wpList_storeE (.tmp 17) (.tmp 225) wr.heap.size 41 41 _ [.int .i64 e, .int .i64 src, .int .i64 dst, .string ty, .slice pp mp pc] 5 (heap_new _ _ rfl) rfl ?_ ?_ ?_ ?_ size_edgeE rfl (by simp [Value.oneCell']) ?_); rfl; rfl; rfl; rfl; intro wZ oZ hx))
            have bZ : Below wr.heap.size wr wZ := below_only (below1 wr _) oZ (Nat.le_refl _) (by simp)
            obtain ⟨xb, hxb⟩ : ∃ xb, xb = wr.heap.size := ⟨_, rfl⟩
            rw [← hxb] at hx ⊢
            have hR := (HRR.out.below bZ).below (Below.refl wZ.heap.size wZ).drew
            have hB := (below_any HB.out bZ HB.out.size).drew
            clear oZ bZ hra c1 HRR hxb
            refine wp_region_held_drew (S := fun W' => W'.heap[xb]? = some (.cells #[.int .i64 e, .int .i64 src, .int .i64 dst, .string ty, .slice pp mp pc] 41 (0, 0))) (by kernel_rfl) hx (fun _ => ?_)
            replace hx : wZ.drew.heap[xb]? = _ := hx
            generalize wZ.drew = wD at *
            as_aux_lemma =>
              refine wpAnyH_take (i := 0) (v := .pointer (some ⟨s, 0, none⟩)) rfl (by kernel_rfl) (by kernel_rfl) (by kernel_rfl) (fun _ _ _ h => h) (Or.inl ⟨by rfl, fun W _ => by go_simp⟩) (hx) ?_
              try simp only [Act.put, List.getElem_toArray, List.getElem_cons_succ, List.getElem_cons_zero, List.setIfInBounds_toArray, List.set_cons_zero, List.set_cons_succ]
              refine wpAnyH_take (i := 1) (v := .pointer (some ⟨xb, 1, none⟩)) rfl (by kernel_rfl) (by kernel_rfl) (by kernel_rfl) (fun _ _ _ h => h) (Or.inl ⟨by rfl, fun W _ => by go_simp⟩) (hx) ?_
              try simp only [Act.put, List.getElem_toArray, List.getElem_cons_succ, List.getElem_cons_zero, List.setIfInBounds_toArray, List.set_cons_zero, List.set_cons_succ]
              refine wpAnyH_take (i := 4) (v := .pointer (some ⟨xb, 0, none⟩)) rfl (by kernel_rfl) (by kernel_rfl) (by kernel_rfl) (fun _ _ _ h => h) (Or.inl ⟨by rfl, fun W _ => by go_simp⟩) (hx) ?_
              try simp only [Act.put, List.getElem_toArray, List.getElem_cons_succ, List.getElem_cons_zero, List.setIfInBounds_toArray, List.set_cons_zero, List.set_cons_succ]
              refine wpAnyH_take (i := 2) (v := .int .i64 src) rfl (by kernel_rfl) (by kernel_rfl) (by kernel_rfl) (fun _ _ _ h => h) (Or.inl ⟨by rfl, fun W' h => by have c0 := cell_of h 1 rfl; go_simp⟩) (hx) ?_
              try simp only [Act.put, List.getElem_toArray, List.getElem_cons_succ, List.getElem_cons_zero, List.setIfInBounds_toArray, List.set_cons_zero, List.set_cons_succ]
              refine wpAnyH_take (i := 5) (v := .int .i64 e) rfl (by kernel_rfl) (by kernel_rfl) (by kernel_rfl) (fun _ _ _ h => h) (Or.inl ⟨by rfl, fun W' h => by have c0 := cell_of h 0 rfl; go_simp⟩) (hx) ?_
              try simp only [Act.put, List.getElem_toArray, List.getElem_cons_succ, List.getElem_cons_zero, List.setIfInBounds_toArray, List.set_cons_zero, List.set_cons_succ]
              refine wpAnyH_ready (rs := [3]) (by kernel_rfl) (by simp) ?_
              refine AllReadyH.cons rfl (fun K hK => ?_) AllReadyH.nil
              rw [if_pos (by rfl)]
              go_simp
              refine (HQ1.out _ hR.st).mono ?_
              rintro e0 wa ⟨pa, ka, rfl, hia, hb3⟩
              replace hx := (hb3.block _ (lt_of_heap hx)).trans hx
              replace hR := hR.below hb3
              replace hB := below_any hB hb3 hB.size
              have HH := Lib.hid (lawHasAt _ l1 e wa hia (by have := HGL.out.1; omega))
              rw [HGC.out.1] at HH
              clear hb3 hia
              refine hK.out _ _ (hx) (fun _ => ?_)
              clear hK K
              try simp only [Act.put, List.getElem_toArray, List.getElem_cons_succ, List.getElem_cons_zero, List.setIfInBounds_toArray, List.set_cons_zero, List.set_cons_succ]
              refine wpAnyH_ready (rs := [6]) (by kernel_rfl) (by simp) ?_
              refine AllReadyH.cons rfl (fun K hK => ?_) AllReadyH.nil
              rw [if_pos (by rfl)]
              go_simp
              refine HH.out.mono ?_
              rintro e0 wv ⟨rfl, rfl⟩
              clear HH
              refine hK.out _ _ (hx) (fun _ => ?_)
              clear hK K
              try simp only [Act.put, List.getElem_toArray, List.getElem_cons_succ, List.getElem_cons_zero, List.setIfInBounds_toArray, List.set_cons_zero, List.set_cons_succ]
              refine wpAnyH_take (i := 7) (v := .bool false) rfl (by kernel_rfl) (by kernel_rfl) (by kernel_rfl) (fun _ _ _ h => h) (Or.inl ⟨by rfl, fun W _ => by go_simp⟩) (hx) ?_
              try simp only [Act.put, List.getElem_toArray, List.getElem_cons_succ, List.getElem_cons_zero, List.setIfInBounds_toArray, List.set_cons_zero, List.set_cons_succ]
              refine wpAnyH_take (i := 8) (v := .bool false) rfl (by kernel_rfl) (by kernel_rfl) (by kernel_rfl) (fun _ _ _ h => h) (Or.inl ⟨by rfl, fun W _ => by go_simp⟩) (hx) ?_
              try simp only [Act.put, List.getElem_toArray, List.getElem_cons_succ, List.getElem_cons_zero, List.setIfInBounds_toArray, List.set_cons_zero, List.set_cons_succ]
              refine wpAnyH_take (i := 9) (v := .pointer (some ⟨s, 0, none⟩)) rfl (by kernel_rfl) (by kernel_rfl) (by kernel_rfl) (fun _ _ _ h => h) (Or.inl ⟨by rfl, fun W _ => by go_simp⟩) (hx) ?_
              try simp only [Act.put, List.getElem_toArray, List.getElem_cons_succ, List.getElem_cons_zero, List.setIfInBounds_toArray, List.set_cons_zero, List.set_cons_succ]
              refine wpAnyH_take (i := 10) (v := .pointer (some ⟨xb, 2, none⟩)) rfl (by kernel_rfl) (by kernel_rfl) (by kernel_rfl) (fun _ _ _ h => h) (Or.inl ⟨by rfl, fun W _ => by go_simp⟩) (hx) ?_
              try simp only [Act.put, List.getElem_toArray, List.getElem_cons_succ, List.getElem_cons_zero, List.setIfInBounds_toArray, List.set_cons_zero, List.set_cons_succ]
              refine wpAnyH_take (i := 13) (v := .pointer (some ⟨xb, 0, none⟩)) rfl (by kernel_rfl) (by kernel_rfl) (by kernel_rfl) (fun _ _ _ h => h) (Or.inl ⟨by rfl, fun W _ => by go_simp⟩) (hx) ?_
              try simp only [Act.put, List.getElem_toArray, List.getElem_cons_succ, List.getElem_cons_zero, List.setIfInBounds_toArray, List.set_cons_zero, List.set_cons_succ]
              refine wpAnyH_take (i := 11) (v := .int .i64 dst) rfl (by kernel_rfl) (by kernel_rfl) (by kernel_rfl) (fun _ _ _ h => h) (Or.inl ⟨by rfl, fun W' h => by have c0 := cell_of h 2 rfl; go_simp⟩) (hx) ?_
              try simp only [Act.put, List.getElem_toArray, List.getElem_cons_succ, List.getElem_cons_zero, List.setIfInBounds_toArray, List.set_cons_zero, List.set_cons_succ]
              refine wpAnyH_take (i := 14) (v := .int .i64 e) rfl (by kernel_rfl) (by kernel_rfl) (by kernel_rfl) (fun _ _ _ h => h) (Or.inl ⟨by rfl, fun W' h => by have c0 := cell_of h 0 rfl; go_simp⟩) (hx) ?_
              try simp only [Act.put, List.getElem_toArray, List.getElem_cons_succ, List.getElem_cons_zero, List.setIfInBounds_toArray, List.set_cons_zero, List.set_cons_succ]
              refine wpAnyH_ready (rs := [12]) (by kernel_rfl) (by simp) ?_
              refine AllReadyH.cons rfl (fun K hK => ?_) AllReadyH.nil
              rw [if_pos (by rfl)]
              go_simp
              refine (HQ2.out _ hR.st).mono ?_
              rintro e0 wb ⟨pb, kb, rfl, hib, hb3⟩
              replace hx := (hb3.block _ (lt_of_heap hx)).trans hx
              replace hR := hR.below hb3
              replace hB := below_any hB hb3 hB.size
              have HH := Lib.hid (lawHasAt _ l2 e wb hib (by have := HGL.out.2.1; omega))
              rw [HGC.out.2.1] at HH
              clear hb3 hib
              refine hK.out _ _ (hx) (fun _ => ?_)
              clear hK K
              try simp only [Act.put, List.getElem_toArray, List.getElem_cons_succ, List.getElem_cons_zero, List.setIfInBounds_toArray, List.set_cons_zero, List.set_cons_succ]
              refine wpAnyH_ready (rs := [15]) (by kernel_rfl) (by simp) ?_
              refine AllReadyH.cons rfl (fun K hK => ?_) AllReadyH.nil
              rw [if_pos (by rfl)]
              go_simp
              refine HH.out.mono ?_
              rintro e0 wv ⟨rfl, rfl⟩
              clear HH
              refine hK.out _ _ (hx) (fun _ => ?_)
              clear hK K
              try simp only [Act.put, List.getElem_toArray, List.getElem_cons_succ, List.getElem_cons_zero, List.setIfInBounds_toArray, List.set_cons_zero, List.set_cons_succ]
              refine wpAnyH_take (i := 16) (v := .bool false) rfl (by kernel_rfl) (by kernel_rfl) (by kernel_rfl) (fun _ _ _ h => h) (Or.inl ⟨by rfl, fun W _ => by go_simp⟩) (hx) ?_
              try simp only [Act.put, List.getElem_toArray, List.getElem_cons_succ, List.getElem_cons_zero, List.setIfInBounds_toArray, List.set_cons_zero, List.set_cons_succ]
              refine wpAnyH_take (i := 17) (v := .bool false) rfl (by kernel_rfl) (by kernel_rfl) (by kernel_rfl) (fun _ _ _ h => h) (Or.inl ⟨by rfl, fun W _ => by go_simp⟩) (hx) ?_
              try simp only [Act.put, List.getElem_toArray, List.getElem_cons_succ, List.getElem_cons_zero, List.setIfInBounds_toArray, List.set_cons_zero, List.set_cons_succ]
              refine wpAnyH_take (i := 18) (v := .bool false) rfl (by kernel_rfl) (by kernel_rfl) (by kernel_rfl) (fun _ _ _ h => h) (Or.inl ⟨by rfl, fun W _ => by go_simp⟩) (hx) ?_
              try simp only [Act.put, List.getElem_toArray, List.getElem_cons_succ, List.getElem_cons_zero, List.setIfInBounds_toArray, List.set_cons_zero, List.set_cons_succ]
              refine wpAnyH_take (i := 19) (v := .pointer (some ⟨s, 0, none⟩)) rfl (by kernel_rfl) (by kernel_rfl) (by kernel_rfl) (fun _ _ _ h => h) (Or.inl ⟨by rfl, fun W _ => by go_simp⟩) (hx) ?_
              try simp only [Act.put, List.getElem_toArray, List.getElem_cons_succ, List.getElem_cons_zero, List.setIfInBounds_toArray, List.set_cons_zero, List.set_cons_succ]
              refine wpAnyH_take (i := 20) (v := .pointer (some ⟨xb, 2, none⟩)) rfl (by kernel_rfl) (by kernel_rfl) (by kernel_rfl) (fun _ _ _ h => h) (Or.inl ⟨by rfl, fun W _ => by go_simp⟩) (hx) ?_
              try simp only [Act.put, List.getElem_toArray, List.getElem_cons_succ, List.getElem_cons_zero, List.setIfInBounds_toArray, List.set_cons_zero, List.set_cons_succ]
              refine wpAnyH_take (i := 22) (v := .pointer (some ⟨xb, 3, none⟩)) rfl (by kernel_rfl) (by kernel_rfl) (by kernel_rfl) (fun _ _ _ h => h) (Or.inl ⟨by rfl, fun W _ => by go_simp⟩) (hx) ?_
              try simp only [Act.put, List.getElem_toArray, List.getElem_cons_succ, List.getElem_cons_zero, List.setIfInBounds_toArray, List.set_cons_zero, List.set_cons_succ]
              refine wpAnyH_take (i := 26) (v := .pointer (some ⟨xb, 0, none⟩)) rfl (by kernel_rfl) (by kernel_rfl) (by kernel_rfl) (fun _ _ _ h => h) (Or.inl ⟨by rfl, fun W _ => by go_simp⟩) (hx) ?_
              try simp only [Act.put, List.getElem_toArray, List.getElem_cons_succ, List.getElem_cons_zero, List.setIfInBounds_toArray, List.set_cons_zero, List.set_cons_succ]
              refine wpAnyH_take (i := 21) (v := .int .i64 dst) rfl (by kernel_rfl) (by kernel_rfl) (by kernel_rfl) (fun _ _ _ h => h) (Or.inl ⟨by rfl, fun W' h => by have c0 := cell_of h 2 rfl; go_simp⟩) (hx) ?_
              try simp only [Act.put, List.getElem_toArray, List.getElem_cons_succ, List.getElem_cons_zero, List.setIfInBounds_toArray, List.set_cons_zero, List.set_cons_succ]
              refine wpAnyH_take (i := 23) (v := .string ty) rfl (by kernel_rfl) (by kernel_rfl) (by kernel_rfl) (fun _ _ _ h => h) (Or.inl ⟨by rfl, fun W' h => by have c0 := cell_of h 3 rfl; go_simp⟩) (hx) ?_
              try simp only [Act.put, List.getElem_toArray, List.getElem_cons_succ, List.getElem_cons_zero, List.setIfInBounds_toArray, List.set_cons_zero, List.set_cons_succ]
              refine wpAnyH_take (i := 27) (v := .int .i64 e) rfl (by kernel_rfl) (by kernel_rfl) (by kernel_rfl) (fun _ _ _ h => h) (Or.inl ⟨by rfl, fun W' h => by have c0 := cell_of h 0 rfl; go_simp⟩) (hx) ?_
              try simp only [Act.put, List.getElem_toArray, List.getElem_cons_succ, List.getElem_cons_zero, List.setIfInBounds_toArray, List.set_cons_zero, List.set_cons_succ]
              refine wpAnyH_ready (rs := [24]) (by kernel_rfl) (by simp) ?_
              refine AllReadyH.cons rfl (fun K hK => ?_) AllReadyH.nil
              rw [if_pos (by rfl)]
              go_simp
              have hb3 : Below wb.heap.size wb (wb.alloc (.cells #[.string ⟨#[]⟩, .string ty] 9)) := (Below.refl _ _).alloc (Nat.le_refl _) _
              have hst : StrsAt (wb.alloc (.cells #[.string ⟨#[]⟩, .string ty] 9)) (.slice (some ⟨wb.heap.size, 0, none⟩) 2 2) [⟨#[]⟩, ty] := strs_new wb [⟨#[]⟩, ty]
              obtain ⟨wc, hwc⟩ : ∃ w, w = (wb.alloc (.cells #[.string ⟨#[]⟩, .string ty] 9)) := ⟨_, rfl⟩
              rw [← hwc] at hb3 hst ⊢
              clear hwc
              replace hx := (hb3.block _ (lt_of_heap hx)).trans hx
              replace hR := hR.below hb3
              replace hB := below_any hB hb3 hB.size
              clear hb3
              refine hK.out _ _ (hx) (fun _ => ?_)
              clear hK K
              try simp only [Act.put, List.getElem_toArray, List.getElem_cons_succ, List.getElem_cons_zero, List.setIfInBounds_toArray, List.set_cons_zero, List.set_cons_succ]
              refine wpAnyH_ready (rs := [25]) (by kernel_rfl) (by simp) ?_
              refine AllReadyH.cons rfl (fun K hK => ?_) AllReadyH.nil
              rw [if_pos (by rfl)]
              go_simp
              refine (HQ3.out _ _ hR.st hst).mono ?_
              rintro e0 wd ⟨pd, kd, rfl, hid, hb3⟩
              replace hx := (hb3.block _ (lt_of_heap hx)).trans hx
              replace hR := hR.below hb3
              replace hB := below_any hB hb3 hB.size
              have HH := Lib.hid (lawHasAt _ l3 e wd hid (by have := HGL.out.2.2.1; omega))
              rw [HGC.out.2.2.1] at HH
              clear hb3 hid
              refine hK.out _ _ (hx) (fun _ => ?_)
              clear hK K
              try simp only [Act.put, List.getElem_toArray, List.getElem_cons_succ, List.getElem_cons_zero, List.setIfInBounds_toArray, List.set_cons_zero, List.set_cons_succ]
              refine wpAnyH_ready (rs := [28]) (by kernel_rfl) (by simp) ?_
              refine AllReadyH.cons rfl (fun K hK => ?_) AllReadyH.nil
              rw [if_pos (by rfl)]
              go_simp
              refine HH.out.mono ?_
              rintro e0 wv ⟨rfl, rfl⟩
              clear HH
              refine hK.out _ _ (hx) (fun _ => ?_)
              clear hK K
              try simp only [Act.put, List.getElem_toArray, List.getElem_cons_succ, List.getElem_cons_zero, List.setIfInBounds_toArray, List.set_cons_zero, List.set_cons_succ]
              refine wpAnyH_take (i := 29) (v := .bool false) rfl (by kernel_rfl) (by kernel_rfl) (by kernel_rfl) (fun _ _ _ h => h) (Or.inl ⟨by rfl, fun W _ => by go_simp⟩) (hx) ?_
              try simp only [Act.put, List.getElem_toArray, List.getElem_cons_succ, List.getElem_cons_zero, List.setIfInBounds_toArray, List.set_cons_zero, List.set_cons_succ]
              refine wpAnyH_take (i := 30) (v := .bool false) rfl (by kernel_rfl) (by kernel_rfl) (by kernel_rfl) (fun _ _ _ h => h) (Or.inl ⟨by rfl, fun W _ => by go_simp⟩) (hx) ?_
              try simp only [Act.put, List.getElem_toArray, List.getElem_cons_succ, List.getElem_cons_zero, List.setIfInBounds_toArray, List.set_cons_zero, List.set_cons_succ]
              refine wpAnyH_take (i := 31) (v := .bool false) rfl (by kernel_rfl) (by kernel_rfl) (by kernel_rfl) (fun _ _ _ h => h) (Or.inl ⟨by rfl, fun W _ => by go_simp⟩) (hx) ?_
              try simp only [Act.put, List.getElem_toArray, List.getElem_cons_succ, List.getElem_cons_zero, List.setIfInBounds_toArray, List.set_cons_zero, List.set_cons_succ]
              refine wpAnyH_take (i := 32) (v := .pointer (some ⟨s, 0, none⟩)) rfl (by kernel_rfl) (by kernel_rfl) (by kernel_rfl) (fun _ _ _ h => h) (Or.inl ⟨by rfl, fun W _ => by go_simp⟩) (hx) ?_
              try simp only [Act.put, List.getElem_toArray, List.getElem_cons_succ, List.getElem_cons_zero, List.setIfInBounds_toArray, List.set_cons_zero, List.set_cons_succ]
              refine wpAnyH_take (i := 33) (v := .pointer (some ⟨xb, 1, none⟩)) rfl (by kernel_rfl) (by kernel_rfl) (by kernel_rfl) (fun _ _ _ h => h) (Or.inl ⟨by rfl, fun W _ => by go_simp⟩) (hx) ?_
              try simp only [Act.put, List.getElem_toArray, List.getElem_cons_succ, List.getElem_cons_zero, List.setIfInBounds_toArray, List.set_cons_zero, List.set_cons_succ]
              refine wpAnyH_take (i := 35) (v := .pointer (some ⟨xb, 3, none⟩)) rfl (by kernel_rfl) (by kernel_rfl) (by kernel_rfl) (fun _ _ _ h => h) (Or.inl ⟨by rfl, fun W _ => by go_simp⟩) (hx) ?_
              try simp only [Act.put, List.getElem_toArray, List.getElem_cons_succ, List.getElem_cons_zero, List.setIfInBounds_toArray, List.set_cons_zero, List.set_cons_succ]
              refine wpAnyH_take (i := 40) (v := .pointer (some ⟨xb, 0, none⟩)) rfl (by kernel_rfl) (by kernel_rfl) (by kernel_rfl) (fun _ _ _ h => h) (Or.inl ⟨by rfl, fun W _ => by go_simp⟩) (hx) ?_
              try simp only [Act.put, List.getElem_toArray, List.getElem_cons_succ, List.getElem_cons_zero, List.setIfInBounds_toArray, List.set_cons_zero, List.set_cons_succ]
              refine wpAnyH_take (i := 34) (v := .int .i64 src) rfl (by kernel_rfl) (by kernel_rfl) (by kernel_rfl) (fun _ _ _ h => h) (Or.inl ⟨by rfl, fun W' h => by have c0 := cell_of h 1 rfl; go_simp⟩) (hx) ?_
              try simp only [Act.put, List.getElem_toArray, List.getElem_cons_succ, List.getElem_cons_zero, List.setIfInBounds_toArray, List.set_cons_zero, List.set_cons_succ]
              refine wpAnyH_take (i := 36) (v := .string ty) rfl (by kernel_rfl) (by kernel_rfl) (by kernel_rfl) (fun _ _ _ h => h) (Or.inl ⟨by rfl, fun W' h => by have c0 := cell_of h 3 rfl; go_simp⟩) (hx) ?_
              try simp only [Act.put, List.getElem_toArray, List.getElem_cons_succ, List.getElem_cons_zero, List.setIfInBounds_toArray, List.set_cons_zero, List.set_cons_succ]
              refine wpAnyH_take (i := 41) (v := .int .i64 e) rfl (by kernel_rfl) (by kernel_rfl) (by kernel_rfl) (fun _ _ _ h => h) (Or.inl ⟨by rfl, fun W' h => by have c0 := cell_of h 0 rfl; go_simp⟩) (hx) ?_
              try simp only [Act.put, List.getElem_toArray, List.getElem_cons_succ, List.getElem_cons_zero, List.setIfInBounds_toArray, List.set_cons_zero, List.set_cons_succ]
              refine wpAnyH_take (i := 37) (v := .string (ty ++ ⟨#[120]⟩)) rfl (by kernel_rfl) (by kernel_rfl) (by kernel_rfl) (fun _ _ _ h => h) (Or.inl ⟨by rfl, fun W' _ => by have hz := HTS.out; have hz3 : ty.size ≤ 9223372036854775806 := (by omega); go_simp⟩) (hx) ?_
              try simp only [Act.put, List.getElem_toArray, List.getElem_cons_succ, List.getElem_cons_zero, List.setIfInBounds_toArray, List.set_cons_zero, List.set_cons_succ]
              refine wpAnyH_ready (rs := [38]) (by kernel_rfl) (by simp) ?_
              refine AllReadyH.cons rfl (fun K hK => ?_) AllReadyH.nil
              rw [if_pos (by rfl)]
              go_simp
              have hb3 : Below wd.heap.size wd (wd.alloc (.cells #[.string (ty ++ ⟨#[120]⟩)] 9)) := (Below.refl _ _).alloc (Nat.le_refl _) _
              have hst : StrsAt (wd.alloc (.cells #[.string (ty ++ ⟨#[120]⟩)] 9)) (.slice (some ⟨wd.heap.size, 0, none⟩) 1 1) [ty ++ (⟨#[120]⟩ : ByteArray)] := strs_new wd [ty ++ (⟨#[120]⟩ : ByteArray)]
              obtain ⟨wf, hwf⟩ : ∃ w, w = (wd.alloc (.cells #[.string (ty ++ ⟨#[120]⟩)] 9)) := ⟨_, rfl⟩
              rw [← hwf] at hb3 hst ⊢
              clear hwf
              replace hx := (hb3.block _ (lt_of_heap hx)).trans hx
              replace hR := hR.below hb3
              replace hB := below_any hB hb3 hB.size
              clear hb3
              refine hK.out _ _ (hx) (fun _ => ?_)
              clear hK K
              try simp only [Act.put, List.getElem_toArray, List.getElem_cons_succ, List.getElem_cons_zero, List.setIfInBounds_toArray, List.set_cons_zero, List.set_cons_succ]
              refine wpAnyH_ready (rs := [39]) (by kernel_rfl) (by simp) ?_
              refine AllReadyH.cons rfl (fun K hK => ?_) AllReadyH.nil
              rw [if_pos (by rfl)]
              go_simp
              refine (HQ4.out _ _ hR.st hst).mono ?_
              rintro e0 wh ⟨ph, kh, rfl, hih, hb3⟩
              replace hx := (hb3.block _ (lt_of_heap hx)).trans hx
              replace hR := hR.below hb3
              replace hB := below_any hB hb3 hB.size
              have HH := Lib.hid (lawHasAt _ l4 e wh hih (by have := HGL.out.2.2.2; omega))
              rw [HGC.out.2.2.2] at HH
              clear hb3 hih
              refine hK.out _ _ (hx) (fun _ => ?_)
              clear hK K
              try simp only [Act.put, List.getElem_toArray, List.getElem_cons_succ, List.getElem_cons_zero, List.setIfInBounds_toArray, List.set_cons_zero, List.set_cons_succ]
              refine wpAnyH_ready (rs := [42]) (by kernel_rfl) (by simp) ?_
              refine AllReadyH.cons rfl (fun K hK => ?_) AllReadyH.nil
              rw [if_pos (by rfl)]
              go_simp
              refine HH.out.mono ?_
              rintro e0 wv ⟨rfl, rfl⟩
              clear HH
              refine hK.out _ _ (hx) (fun _ => ?_)
              clear hK K
              try simp only [Act.put, List.getElem_toArray, List.getElem_cons_succ, List.getElem_cons_zero, List.setIfInBounds_toArray, List.set_cons_zero, List.set_cons_succ]
              refine wpAnyH_take (i := 43) (v := .bool false) rfl (by kernel_rfl) (by kernel_rfl) (by kernel_rfl) (fun _ _ _ h => h) (Or.inl ⟨by rfl, fun W _ => by go_simp⟩) (hx) ?_
              try simp only [Act.put, List.getElem_toArray, List.getElem_cons_succ, List.getElem_cons_zero, List.setIfInBounds_toArray, List.set_cons_zero, List.set_cons_succ]
              refine wpAnyH_done (by kernel_rfl) ?_ _
              clear hR hx hst
              go_wp2_with fail
              go_roundg (gk - 1)
              case measure => omega
              case rel => exact ⟨j + 1, by omega, by go_num, Lib.hid hB⟩
          · have hlab : ∀ W', StoreE W' s g → Calls Tryz.prog 31 #[.pointer (some ⟨s, 0, none⟩), .slice none 0 0] W' fun e w' => ∃ p cap, e = .returned (.slice p n1 cap) ∧ Below W'.heap.size W' w' := fun W' h => by
              refine (labeledAt W' s g h HGG.out.dn (fun a ha => (HGG.out.labels a ha).2.1) HGG.out.nn _ [] (strs_nil W') (by simp) (by simp)).mono ?_
              rintro e w' ⟨R, rfl, hR, hb⟩
              obtain ⟨p, cap, rfl⟩ := own_slice hR
              have e : (labeledL g []).length = n1 := by
                have q : labeledL g [] = numsN g := List.filter_eq_self.2 (by simp)
                rw [q, numsN_len]
                exact HL.out.1.symm
              rw [e]
              exact ⟨p, cap, rfl, hb⟩
            have HLAB := Lib.hid hlab
            have hB := below_any HB7.out HB.out HB7.out.size
            have HRR := Lib.hid hR
            clear hlab hR
            go_upto_region 35 with fail
            have hR := HRR.out.below (Below.refl wr.heap.size wr).drew
            have up := hR.box
            replace hB := hB.drew
            clear HRR c1
            refine wp_region_held_drew (S := fun W' => W'.heap[pb]? = some (.cells #[.slice pn n1 kn, .slice pe n2 ke] 25 (0, 0))) (by kernel_rfl) up (fun _ => ?_)
            generalize wr.drew = wD at *
            as_aux_lemma =>
              refine wpAnyH_take (i := 0) (v := .int .i64 n2) rfl (by kernel_rfl) (by kernel_rfl) (by kernel_rfl) (fun _ _ _ h => h) (Or.inl ⟨by rfl, fun W _ => by go_simp⟩) (up) ?_
              try simp only [Act.put, List.getElem_toArray, List.getElem_cons_succ, List.getElem_cons_zero, List.setIfInBounds_toArray, List.set_cons_zero, List.set_cons_succ]
              refine wpAnyH_take (i := 1) (v := .pointer (some ⟨pb, 1, none⟩)) rfl (by kernel_rfl) (by kernel_rfl) (by kernel_rfl) (fun _ _ _ h => h) (Or.inl ⟨by rfl, fun W _ => by go_simp⟩) (up) ?_
              try simp only [Act.put, List.getElem_toArray, List.getElem_cons_succ, List.getElem_cons_zero, List.setIfInBounds_toArray, List.set_cons_zero, List.set_cons_succ]
              refine wpAnyH_take (i := 2) (v := .slice pe n2 ke) rfl (by kernel_rfl) (by kernel_rfl) (by kernel_rfl) (fun _ _ _ h => h) (Or.inl ⟨by rfl, fun W' h => by have c0 := cell_of h 1 rfl; go_simp⟩) (up) ?_
              try simp only [Act.put, List.getElem_toArray, List.getElem_cons_succ, List.getElem_cons_zero, List.setIfInBounds_toArray, List.set_cons_zero, List.set_cons_succ]
              refine wpAnyH_take (i := 3) (v := .int .i64 n2) rfl (by kernel_rfl) (by kernel_rfl) (by kernel_rfl) (fun _ _ _ h => h) (Or.inl ⟨by rfl, fun W _ => by go_simp⟩) (up) ?_
              try simp only [Act.put, List.getElem_toArray, List.getElem_cons_succ, List.getElem_cons_zero, List.setIfInBounds_toArray, List.set_cons_zero, List.set_cons_succ]
              refine wpAnyH_take (i := 4) (v := .bool true) rfl (by kernel_rfl) (by kernel_rfl) (by kernel_rfl) (fun _ _ _ h => h) (Or.inl ⟨by rfl, fun W _ => by go_simp⟩) (up) ?_
              try simp only [Act.put, List.getElem_toArray, List.getElem_cons_succ, List.getElem_cons_zero, List.setIfInBounds_toArray, List.set_cons_zero, List.set_cons_succ]
              refine wpAnyH_take (i := 5) (v := .bool true) rfl (by kernel_rfl) (by kernel_rfl) (by kernel_rfl) (fun _ _ _ h => h) (Or.inl ⟨by rfl, fun W _ => by go_simp⟩) (up) ?_
              try simp only [Act.put, List.getElem_toArray, List.getElem_cons_succ, List.getElem_cons_zero, List.setIfInBounds_toArray, List.set_cons_zero, List.set_cons_succ]
              refine wpAnyH_take (i := 6) (v := .int .i64 n2) rfl (by kernel_rfl) (by kernel_rfl) (by kernel_rfl) (fun _ _ _ h => h) (Or.inl ⟨by rfl, fun W _ => by go_simp⟩) (up) ?_
              try simp only [Act.put, List.getElem_toArray, List.getElem_cons_succ, List.getElem_cons_zero, List.setIfInBounds_toArray, List.set_cons_zero, List.set_cons_succ]
              refine wpAnyH_take (i := 7) (v := .pointer (some ⟨pb, 1, none⟩)) rfl (by kernel_rfl) (by kernel_rfl) (by kernel_rfl) (fun _ _ _ h => h) (Or.inl ⟨by rfl, fun W _ => by go_simp⟩) (up) ?_
              try simp only [Act.put, List.getElem_toArray, List.getElem_cons_succ, List.getElem_cons_zero, List.setIfInBounds_toArray, List.set_cons_zero, List.set_cons_succ]
              refine wpAnyH_take (i := 8) (v := .slice pe n2 ke) rfl (by kernel_rfl) (by kernel_rfl) (by kernel_rfl) (fun _ _ _ h => h) (Or.inl ⟨by rfl, fun W' h => by have c0 := cell_of h 1 rfl; go_simp⟩) (up) ?_
              try simp only [Act.put, List.getElem_toArray, List.getElem_cons_succ, List.getElem_cons_zero, List.setIfInBounds_toArray, List.set_cons_zero, List.set_cons_succ]
              refine wpAnyH_take (i := 9) (v := .int .i64 n2) rfl (by kernel_rfl) (by kernel_rfl) (by kernel_rfl) (fun _ _ _ h => h) (Or.inl ⟨by rfl, fun W _ => by go_simp⟩) (up) ?_
              try simp only [Act.put, List.getElem_toArray, List.getElem_cons_succ, List.getElem_cons_zero, List.setIfInBounds_toArray, List.set_cons_zero, List.set_cons_succ]
              refine wpAnyH_take (i := 10) (v := .bool true) rfl (by kernel_rfl) (by kernel_rfl) (by kernel_rfl) (fun _ _ _ h => h) (Or.inl ⟨by rfl, fun W _ => by go_simp⟩) (up) ?_
              try simp only [Act.put, List.getElem_toArray, List.getElem_cons_succ, List.getElem_cons_zero, List.setIfInBounds_toArray, List.set_cons_zero, List.set_cons_succ]
              refine wpAnyH_take (i := 11) (v := .bool true) rfl (by kernel_rfl) (by kernel_rfl) (by kernel_rfl) (fun _ _ _ h => h) (Or.inl ⟨by rfl, fun W _ => by go_simp⟩) (up) ?_
              try simp only [Act.put, List.getElem_toArray, List.getElem_cons_succ, List.getElem_cons_zero, List.setIfInBounds_toArray, List.set_cons_zero, List.set_cons_succ]
              refine wpAnyH_take (i := 12) (v := .bool true) rfl (by kernel_rfl) (by kernel_rfl) (by kernel_rfl) (fun _ _ _ h => h) (Or.inl ⟨by rfl, fun W _ => by go_simp⟩) (up) ?_
              try simp only [Act.put, List.getElem_toArray, List.getElem_cons_succ, List.getElem_cons_zero, List.setIfInBounds_toArray, List.set_cons_zero, List.set_cons_succ]
              refine wpAnyH_take (i := 13) (v := .pointer (some ⟨s, 0, none⟩)) rfl (by kernel_rfl) (by kernel_rfl) (by kernel_rfl) (fun _ _ _ h => h) (Or.inl ⟨by rfl, fun W _ => by go_simp⟩) (up) ?_
              try simp only [Act.put, List.getElem_toArray, List.getElem_cons_succ, List.getElem_cons_zero, List.setIfInBounds_toArray, List.set_cons_zero, List.set_cons_succ]
              refine wpAnyH_take (i := 16) (v := .pointer (some ⟨pb, 0, none⟩)) rfl (by kernel_rfl) (by kernel_rfl) (by kernel_rfl) (fun _ _ _ h => h) (Or.inl ⟨by rfl, fun W _ => by go_simp⟩) (up) ?_
              try simp only [Act.put, List.getElem_toArray, List.getElem_cons_succ, List.getElem_cons_zero, List.setIfInBounds_toArray, List.set_cons_zero, List.set_cons_succ]
              refine wpAnyH_take (i := 17) (v := .slice pn n1 kn) rfl (by kernel_rfl) (by kernel_rfl) (by kernel_rfl) (fun _ _ _ h => h) (Or.inl ⟨by rfl, fun W' h => by have c0 := cell_of h 0 rfl; go_simp⟩) (up) ?_
              try simp only [Act.put, List.getElem_toArray, List.getElem_cons_succ, List.getElem_cons_zero, List.setIfInBounds_toArray, List.set_cons_zero, List.set_cons_succ]
              refine wpAnyH_take (i := 18) (v := .int .i64 n1) rfl (by kernel_rfl) (by kernel_rfl) (by kernel_rfl) (fun _ _ _ h => h) (Or.inl ⟨by rfl, fun W _ => by go_simp⟩) (up) ?_
              try simp only [Act.put, List.getElem_toArray, List.getElem_cons_succ, List.getElem_cons_zero, List.setIfInBounds_toArray, List.set_cons_zero, List.set_cons_succ]
              refine wpAnyH_ready (rs := [14]) (by kernel_rfl) (by simp) ?_
              refine AllReadyH.cons rfl (fun K hK => ?_) AllReadyH.nil
              rw [if_pos (by rfl)]
              go_simp
              refine (HLAB.out _ hR.st).mono ?_
              rintro e0 w8 ⟨pl, kl, rfl, hb3⟩
              replace up := (hb3.block _ (lt_of_heap up)).trans up
              replace hR := hR.below hb3
              replace hB := below_any hB hb3 hB.size
              clear hb3
              refine hK.out _ _ (up) (fun _ => ?_)
              clear hK K
              try simp only [Act.put, List.getElem_toArray, List.getElem_cons_succ, List.getElem_cons_zero, List.setIfInBounds_toArray, List.set_cons_zero, List.set_cons_succ]
              refine wpAnyH_take (i := 15) (v := .int .i64 n1) rfl (by kernel_rfl) (by kernel_rfl) (by kernel_rfl) (fun _ _ _ h => h) (Or.inl ⟨by rfl, fun W _ => by go_simp⟩) (up) ?_
              try simp only [Act.put, List.getElem_toArray, List.getElem_cons_succ, List.getElem_cons_zero, List.setIfInBounds_toArray, List.set_cons_zero, List.set_cons_succ]
              refine wpAnyH_take (i := 19) (v := .bool true) rfl (by kernel_rfl) (by kernel_rfl) (by kernel_rfl) (fun _ _ _ h => h) (Or.inl ⟨by rfl, fun W _ => by go_simp⟩) (up) ?_
              try simp only [Act.put, List.getElem_toArray, List.getElem_cons_succ, List.getElem_cons_zero, List.setIfInBounds_toArray, List.set_cons_zero, List.set_cons_succ]
              refine wpAnyH_take (i := 20) (v := .bool true) rfl (by kernel_rfl) (by kernel_rfl) (by kernel_rfl) (fun _ _ _ h => h) (Or.inl ⟨by rfl, fun W _ => by go_simp⟩) (up) ?_
              try simp only [Act.put, List.getElem_toArray, List.getElem_cons_succ, List.getElem_cons_zero, List.setIfInBounds_toArray, List.set_cons_zero, List.set_cons_succ]
              refine wpAnyH_take (i := 21) (v := .bool true) rfl (by kernel_rfl) (by kernel_rfl) (by kernel_rfl) (fun _ _ _ h => h) (Or.inl ⟨by rfl, fun W _ => by go_simp⟩) (up) ?_
              try simp only [Act.put, List.getElem_toArray, List.getElem_cons_succ, List.getElem_cons_zero, List.setIfInBounds_toArray, List.set_cons_zero, List.set_cons_succ]
              refine wpAnyH_ready (rs := [22]) (by kernel_rfl) (by simp) ?_
              refine AllReadyH.cons rfl (fun K hK => ?_) AllReadyH.nil
              rw [if_pos (by rfl)]
              go_simp
              refine (HWK.out _ hB).mono ?_
              rintro e0 w9 ⟨rfl, hb3⟩
              replace up := (hb3.block _ (lt_of_heap up)).trans up
              replace hR := hR.below hb3
              replace hB := below_any hB hb3 hB.size
              clear hb3
              refine hK.out _ _ (up) (fun _ => ?_)
              clear hK K
              try simp only [Act.put, List.getElem_toArray, List.getElem_cons_succ, List.getElem_cons_zero, List.setIfInBounds_toArray, List.set_cons_zero, List.set_cons_succ]
              refine wpAnyH_take (i := 23) (v := .bool true) rfl (by kernel_rfl) (by kernel_rfl) (by kernel_rfl) (fun _ _ _ h => h) (Or.inl ⟨by rfl, fun W _ => by go_simp⟩) (up) ?_
              try simp only [Act.put, List.getElem_toArray, List.getElem_cons_succ, List.getElem_cons_zero, List.setIfInBounds_toArray, List.set_cons_zero, List.set_cons_succ]
              refine wpAnyH_take (i := 24) (v := .bool true) rfl (by kernel_rfl) (by kernel_rfl) (by kernel_rfl) (fun _ _ _ h => h) (Or.inl ⟨by rfl, fun W _ => by go_simp⟩) (up) ?_
              try simp only [Act.put, List.getElem_toArray, List.getElem_cons_succ, List.getElem_cons_zero, List.setIfInBounds_toArray, List.set_cons_zero, List.set_cons_succ]
              refine wpAnyH_done (by kernel_rfl) ?_ _
              go_wp2_with fail
              go_ret
              exact ⟨rfl, hB⟩
    · have hld : Calls Tryz.prog 11 #[.agg #[.slice p1 n1 cap1, .slice p2 n2 cap2]] w1 fun e w' => e = .returned (.tuple #[.pointer none, .int .i64 21]) ∧ Below w1.heap.size w1 w' := by
        refine HLD1.out.mono ?_
        rintro e w' ⟨hb, h⟩
        rw [if_neg hgp] at h
        exact ⟨h, hb⟩
      have HLD2 := Lib.hid hld
      clear hld hgp hb1
      go_wp2_with (first
        | ((with_reducible refine wpList_loadRowE (.tmp 1) W.heap.size 25 25 [.slice p1 n1 cap1, .slice p2 n2 cap2] 2 _ u1 rfl Tryz.underlying25 rfl size25 ?_ ?_ ?_ ?_); rfl; rfl; rfl)
        | (go_at_call 11; (with_reducible refine HLD2.out.mono ?_); rintro e w2 ⟨rfl, hb2⟩; have b2 := below_any b1 hb2 b1.size)
        | (go_at_call 9; (with_reducible refine (HWK.out _ b2).mono ?_); rintro e w3 ⟨rfl, hb3⟩))
      go_ret
      exact ⟨rfl, below_any b2 hb3 b2.size⟩
end Go.Proofs.YtcfmenkigolnoaaGreatDoor
