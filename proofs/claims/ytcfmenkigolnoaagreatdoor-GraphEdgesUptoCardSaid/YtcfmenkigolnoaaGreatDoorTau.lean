/- Texts of one kind, one behind the other: each says ahead of itself what it shows. -/
import Derived.Test.YtcfmenkigolnoaaGreatDoorTat
import Derived.Test.YtcfmenkigolnoaaGreatDoorTaq
/- Texts, properties, nodes, edges, graphs that tell the same are told to be equal. -/
namespace Go.Proofs.YtcfmenkigolnoaaGreatDoor
open Go.RowKit

/-- Told to be equal. -/
def YesB (W : World) (e : Ending) (w' : World) : Prop := e = .returned (.bool true) ∧ Below W.heap.size W w'
set_option maxHeartbeats 1600000 in
set_option maxRecDepth 20000 in
theorem eqTextsAt (V U : Value) (ts : List ByteArray) (W : World) (h1 : StrsAt W V ts) (h2 : StrsAt W U ts) (hn : ts.length ≤ 2097152) : Calls Tryz.prog 51 #[V, U] W (YesB W) := by
  obtain ⟨p1, c1, rfl, hc1⟩ := h1
  obtain ⟨p2, c2, rfl, hc2⟩ := h2
  obtain ⟨n, hl⟩ : ∃ n, n = ts.length := ⟨_, rfl⟩
  rw [← hl]
  rw [← hl] at hn
  have H1 := Lib.hid hc1
  have H2 := Lib.hid hc2
  have HL := Lib.hid hl
  clear hc1 hc2 hl
  go_enter Tryz.func51, Tryz.ntmps51
  go_wp2_with fail
  go_loopg [5] n (fun gg s5 wr => ∃ j : Nat, j + gg = n ∧ s5 = .int .i64 j ∧ Hid (Below W.heap.size W wr))
  case atStart => exact ⟨0, by omega, rfl, Lib.hid (Below.refl _ _)⟩
  case round =>
    obtain ⟨j, hjg, rfl, HB⟩ := hrel
    by_cases hj : (j : Int) < n
    · have hj1 : j < ts.length := by have := HL.out; omega
      obtain ⟨g1, o1, rfl, hcj1⟩ := H1.out (by intro q; rw [q] at hj1; simp at hj1)
      obtain ⟨g2, o2, rfl, hcj2⟩ := H2.out (by intro q; rw [q] at hj1; simp at hj1)
      obtain ⟨x, hx⟩ : ∃ x, x = ts[j] := ⟨_, rfl⟩
      have e : ts.getD j ByteArray.empty = x := by rw [hx, List.getD_eq_getElem?_getD, List.getElem?_eq_getElem hj1]; rfl
      have k1 := cell_below (hcj1 j hj1) HB.out
      have k2 := cell_below (hcj2 j hj1) HB.out
      rw [e] at k1 k2
      clear hcj1 hcj2 hx e
      go_upto_region 6 with fail
      go_quiet (fail)
      have HB2 := Lib.hid (HB.out.trans (below_drewN (Below.refl _ wr) nq |>.mono HB.out.size))
      clear k1 k2 HB
      generalize wr.drewN nq = w9 at *
      go_wp2_with fail
      go_roundg (gk - 1)
      case measure => omega
      case rel => exact ⟨j + 1, by omega, by go_num, HB2⟩
    · go_wp2_with fail
      go_ret
      exact ⟨rfl, HB.out⟩
set_option maxHeartbeats 3200000 in
set_option maxRecDepth 20000 in
theorem eqPropsAt (V U : Value) (ps : List PairL) (W : World) (h1 : SliceE pairE W (Old W) V ps) (h2 : SliceE pairE W (Old W) U ps) (hn : ps.length ≤ 2097152) : Calls Tryz.prog 52 #[V, U] W (YesB W) := by
  obtain ⟨p1, c1, rfl⟩ := h1.slice
  obtain ⟨p2, c2, rfl⟩ := h2.slice
  obtain ⟨n, hl⟩ : ∃ n, n = ps.length := ⟨_, rfl⟩
  rw [← hl]
  rw [← hl] at hn
  have H1 := Lib.hid h1
  have H2 := Lib.hid h2
  have HL := Lib.hid hl
  clear h1 h2 hl
  go_enter Tryz.func52, Tryz.ntmps52
  go_wp2_with fail
  go_loopg [5] n (fun gg s5 wr => ∃ j : Nat, j + gg = n ∧ s5 = .int .i64 j ∧ Hid (Below W.heap.size W wr))
  case atStart => exact ⟨0, by omega, rfl, Lib.hid (Below.refl _ _)⟩
  case round =>
    obtain ⟨j, hjg, rfl, HB⟩ := hrel
    by_cases hj : (j : Int) < n
    · have hj1 : j < ps.length := by have := HL.out; omega
      obtain ⟨g1, o1, cp1, cc1, e1, hg1, hr1, hra1⟩ := (H1.out.stays (old_below HB.out)).at_ j hj1
      obtain ⟨g2, o2, cp2, cc2, e2, hg2, hr2, hra2⟩ := (H2.out.stays (old_below HB.out)).at_ j hj1
      injection e1 with e11 e12 e13
      injection e2 with e21 e22 e23
      subst e11 e21
      obtain ⟨x, hx⟩ : ∃ x, x = ps[j] := ⟨_, rfl⟩
      rw [← hx] at hr1 hr2
      obtain ⟨key, ⟨k1, b1, i1, t1, x1, q1⟩⟩ := x
      obtain ⟨c61, rfl, hks, hv1⟩ := hr1
      obtain ⟨c62, rfl, _, hv2⟩ := hr2
      have hw1 : valE.rel wr (Old wr) c61 (.mk k1 b1 i1 t1 x1 q1) := hv1
      have hw2 : valE.rel wr (Old wr) c62 (.mk k1 b1 i1 t1 x1 q1) := hv2
      obtain ⟨L1, rfl, _, hq1⟩ := hv1
      obtain ⟨L2, rfl, _, hq2⟩ := hv2
      obtain ⟨lp1, lc1, rfl⟩ := held_slice (HeldF.held q1 hq1)
      obtain ⟨lp2, lc2, rfl⟩ := held_slice (HeldF.held q1 hq2)
      have ra : wr.rangeAt g1 (o1 + j * 7) [.string key, .int .i64 k1, .bool b1, .int .i64 i1, .string t1, .string x1, .slice lp1 q1.length lc1] := hra1
      have rb : wr.rangeAt g2 (o2 + j * 7) [.string key, .int .i64 k1, .bool b1, .int .i64 i1, .string t1, .string x1, .slice lp2 q1.length lc2] := hra2
      clear hra1 hra2 hx hks e12 e13 e22 e23 hq1 hq2
      have hB := HB.out
      clear HB
      go_upto_region 6 with fail
      refine wp_region_held_drew (S := fun W' => W'.rangeAt g1 (o1 + j * 7) [.string key, .int .i64 k1, .bool b1, .int .i64 i1, .string t1, .string x1, .slice lp1 q1.length lc1] ∧ W'.rangeAt g2 (o2 + j * 7) [.string key, .int .i64 k1, .bool b1, .int .i64 i1, .string t1, .string x1, .slice lp2 q1.length lc2]) (by kernel_rfl) ⟨ra, rb⟩ (fun _ => ?_)
      replace ra := range_keep ra (Below.refl wr.heap.size wr).drew
      replace rb := range_keep rb (Below.refl wr.heap.size wr).drew
      replace hw1 := valE.stays (old_below (Below.refl wr.heap.size wr).drew) hw1
      replace hw2 := valE.stays (old_below (Below.refl wr.heap.size wr).drew) hw2
      replace hB := hB.drew
      generalize wr.drew = wD at *
      refine wpAnyH_take (i := 0) (v := .slice (some ⟨g1, o1, none⟩) n c1) rfl (by kernel_rfl) (by kernel_rfl) (by kernel_rfl) (fun _ _ _ h => h) (Or.inl ⟨by rfl, fun W _ => by go_simp⟩) (⟨ra, rb⟩) ?_
      try simp only [Act.put, List.getElem_toArray, List.getElem_cons_succ, List.getElem_cons_zero, List.setIfInBounds_toArray, List.set_cons_zero, List.set_cons_succ]
      refine wpAnyH_take (i := 1) (v := .int .i64 (j : Int)) rfl (by kernel_rfl) (by kernel_rfl) (by kernel_rfl) (fun _ _ _ h => h) (Or.inl ⟨by rfl, fun W _ => by go_simp⟩) (⟨ra, rb⟩) ?_
      try simp only [Act.put, List.getElem_toArray, List.getElem_cons_succ, List.getElem_cons_zero, List.setIfInBounds_toArray, List.set_cons_zero, List.set_cons_succ]
      refine wpAnyH_take (i := 5) (v := .slice (some ⟨g2, o2, none⟩) n c2) rfl (by kernel_rfl) (by kernel_rfl) (by kernel_rfl) (fun _ _ _ h => h) (Or.inl ⟨by rfl, fun W _ => by go_simp⟩) (⟨ra, rb⟩) ?_
      try simp only [Act.put, List.getElem_toArray, List.getElem_cons_succ, List.getElem_cons_zero, List.setIfInBounds_toArray, List.set_cons_zero, List.set_cons_succ]
      refine wpAnyH_take (i := 6) (v := .int .i64 (j : Int)) rfl (by kernel_rfl) (by kernel_rfl) (by kernel_rfl) (fun _ _ _ h => h) (Or.inl ⟨by rfl, fun W _ => by go_simp⟩) (⟨ra, rb⟩) ?_
      try simp only [Act.put, List.getElem_toArray, List.getElem_cons_succ, List.getElem_cons_zero, List.setIfInBounds_toArray, List.set_cons_zero, List.set_cons_succ]
      refine wpAnyH_take (i := 2) (v := .pointer (some ⟨g1, o1 + j * 7, none⟩)) rfl (by kernel_rfl) (by kernel_rfl) (by kernel_rfl) (fun _ _ _ h => h) (Or.inl ⟨by rfl, fun W _ => by go_simp⟩) (⟨ra, rb⟩) ?_
      try simp only [Act.put, List.getElem_toArray, List.getElem_cons_succ, List.getElem_cons_zero, List.setIfInBounds_toArray, List.set_cons_zero, List.set_cons_succ]
      refine wpAnyH_take (i := 7) (v := .pointer (some ⟨g2, o2 + j * 7, none⟩)) rfl (by kernel_rfl) (by kernel_rfl) (by kernel_rfl) (fun _ _ _ h => h) (Or.inl ⟨by rfl, fun W _ => by go_simp⟩) (⟨ra, rb⟩) ?_
      try simp only [Act.put, List.getElem_toArray, List.getElem_cons_succ, List.getElem_cons_zero, List.setIfInBounds_toArray, List.set_cons_zero, List.set_cons_succ]
      refine wpAnyH_take (i := 3) (v := .pointer (some ⟨g1, o1 + j * 7, none⟩)) rfl (by kernel_rfl) (by kernel_rfl) (by kernel_rfl) (fun _ _ _ h => h) (Or.inl ⟨by rfl, fun W _ => by go_simp⟩) (⟨ra, rb⟩) ?_
      try simp only [Act.put, List.getElem_toArray, List.getElem_cons_succ, List.getElem_cons_zero, List.setIfInBounds_toArray, List.set_cons_zero, List.set_cons_succ]
      refine wpAnyH_take (i := 8) (v := .pointer (some ⟨g2, o2 + j * 7, none⟩)) rfl (by kernel_rfl) (by kernel_rfl) (by kernel_rfl) (fun _ _ _ h => h) (Or.inl ⟨by rfl, fun W _ => by go_simp⟩) (⟨ra, rb⟩) ?_
      try simp only [Act.put, List.getElem_toArray, List.getElem_cons_succ, List.getElem_cons_zero, List.setIfInBounds_toArray, List.set_cons_zero, List.set_cons_succ]
      refine wpAnyH_take (i := 4) (v := .string key) rfl (by kernel_rfl) (by kernel_rfl) (by kernel_rfl) (fun _ _ _ h => h) (Or.inl ⟨by rfl, fun W' h => by have c0 : W'.cell? ⟨g1, o1 + j * 7, none⟩ = some (.string key) := (by have q := h.1 0 _ rfl; simpa using q); go_simp⟩) (⟨ra, rb⟩) ?_
      try simp only [Act.put, List.getElem_toArray, List.getElem_cons_succ, List.getElem_cons_zero, List.setIfInBounds_toArray, List.set_cons_zero, List.set_cons_succ]
      refine wpAnyH_take (i := 9) (v := .string key) rfl (by kernel_rfl) (by kernel_rfl) (by kernel_rfl) (fun _ _ _ h => h) (Or.inl ⟨by rfl, fun W' h => by have c0 : W'.cell? ⟨g2, o2 + j * 7, none⟩ = some (.string key) := (by have q := h.2 0 _ rfl; simpa using q); go_simp⟩) (⟨ra, rb⟩) ?_
      try simp only [Act.put, List.getElem_toArray, List.getElem_cons_succ, List.getElem_cons_zero, List.setIfInBounds_toArray, List.set_cons_zero, List.set_cons_succ]
      refine wpAnyH_take (i := 10) (v := .bool false) rfl (by kernel_rfl) (by kernel_rfl) (by kernel_rfl) (fun _ _ _ h => h) (Or.inl ⟨by rfl, fun W _ => by go_simp⟩) (⟨ra, rb⟩) ?_
      try simp only [Act.put, List.getElem_toArray, List.getElem_cons_succ, List.getElem_cons_zero, List.setIfInBounds_toArray, List.set_cons_zero, List.set_cons_succ]
      refine wpAnyH_take (i := 11) (v := .bool false) rfl (by kernel_rfl) (by kernel_rfl) (by kernel_rfl) (fun _ _ _ h => h) (Or.inl ⟨by rfl, fun W _ => by go_simp⟩) (⟨ra, rb⟩) ?_
      try simp only [Act.put, List.getElem_toArray, List.getElem_cons_succ, List.getElem_cons_zero, List.setIfInBounds_toArray, List.set_cons_zero, List.set_cons_succ]
      refine wpAnyH_take (i := 12) (v := .slice (some ⟨g1, o1, none⟩) n c1) rfl (by kernel_rfl) (by kernel_rfl) (by kernel_rfl) (fun _ _ _ h => h) (Or.inl ⟨by rfl, fun W _ => by go_simp⟩) (⟨ra, rb⟩) ?_
      try simp only [Act.put, List.getElem_toArray, List.getElem_cons_succ, List.getElem_cons_zero, List.setIfInBounds_toArray, List.set_cons_zero, List.set_cons_succ]
      refine wpAnyH_take (i := 13) (v := .int .i64 (j : Int)) rfl (by kernel_rfl) (by kernel_rfl) (by kernel_rfl) (fun _ _ _ h => h) (Or.inl ⟨by rfl, fun W _ => by go_simp⟩) (⟨ra, rb⟩) ?_
      try simp only [Act.put, List.getElem_toArray, List.getElem_cons_succ, List.getElem_cons_zero, List.setIfInBounds_toArray, List.set_cons_zero, List.set_cons_succ]
      refine wpAnyH_take (i := 17) (v := .slice (some ⟨g2, o2, none⟩) n c2) rfl (by kernel_rfl) (by kernel_rfl) (by kernel_rfl) (fun _ _ _ h => h) (Or.inl ⟨by rfl, fun W _ => by go_simp⟩) (⟨ra, rb⟩) ?_
      try simp only [Act.put, List.getElem_toArray, List.getElem_cons_succ, List.getElem_cons_zero, List.setIfInBounds_toArray, List.set_cons_zero, List.set_cons_succ]
      refine wpAnyH_take (i := 18) (v := .int .i64 (j : Int)) rfl (by kernel_rfl) (by kernel_rfl) (by kernel_rfl) (fun _ _ _ h => h) (Or.inl ⟨by rfl, fun W _ => by go_simp⟩) (⟨ra, rb⟩) ?_
      try simp only [Act.put, List.getElem_toArray, List.getElem_cons_succ, List.getElem_cons_zero, List.setIfInBounds_toArray, List.set_cons_zero, List.set_cons_succ]
      refine wpAnyH_take (i := 14) (v := .pointer (some ⟨g1, o1 + j * 7, none⟩)) rfl (by kernel_rfl) (by kernel_rfl) (by kernel_rfl) (fun _ _ _ h => h) (Or.inl ⟨by rfl, fun W _ => by go_simp⟩) (⟨ra, rb⟩) ?_
      try simp only [Act.put, List.getElem_toArray, List.getElem_cons_succ, List.getElem_cons_zero, List.setIfInBounds_toArray, List.set_cons_zero, List.set_cons_succ]
      refine wpAnyH_take (i := 19) (v := .pointer (some ⟨g2, o2 + j * 7, none⟩)) rfl (by kernel_rfl) (by kernel_rfl) (by kernel_rfl) (fun _ _ _ h => h) (Or.inl ⟨by rfl, fun W _ => by go_simp⟩) (⟨ra, rb⟩) ?_
      try simp only [Act.put, List.getElem_toArray, List.getElem_cons_succ, List.getElem_cons_zero, List.setIfInBounds_toArray, List.set_cons_zero, List.set_cons_succ]
      refine wpAnyH_take (i := 15) (v := .pointer (some ⟨g1, o1 + j * 7 + 1, none⟩)) rfl (by kernel_rfl) (by kernel_rfl) (by kernel_rfl) (fun _ _ _ h => h) (Or.inl ⟨by rfl, fun W _ => by go_simp⟩) (⟨ra, rb⟩) ?_
      try simp only [Act.put, List.getElem_toArray, List.getElem_cons_succ, List.getElem_cons_zero, List.setIfInBounds_toArray, List.set_cons_zero, List.set_cons_succ]
      refine wpAnyH_take (i := 20) (v := .pointer (some ⟨g2, o2 + j * 7 + 1, none⟩)) rfl (by kernel_rfl) (by kernel_rfl) (by kernel_rfl) (fun _ _ _ h => h) (Or.inl ⟨by rfl, fun W _ => by go_simp⟩) (⟨ra, rb⟩) ?_
      try simp only [Act.put, List.getElem_toArray, List.getElem_cons_succ, List.getElem_cons_zero, List.setIfInBounds_toArray, List.set_cons_zero, List.set_cons_succ]
      refine wpAnyH_take (i := 16) (v := .agg #[.int .i64 k1, .bool b1, .int .i64 i1, .string t1, .string x1, .slice lp1 q1.length lc1]) rfl (by kernel_rfl) (by kernel_rfl) (by kernel_rfl) (fun _ _ _ h => h) (yieldsIf_load_mid (by rfl) 60 (.tmp 32) rfl g1 (o1 + j * 7 + 1) rfl [.int .i64 k1, .bool b1, .int .i64 i1, .string t1, .string x1, .slice lp1 q1.length lc1] _ (fun W' h => range_tail h.1) Tryz.underlying60 rfl size_valE) (⟨ra, rb⟩) ?_
      try simp only [Act.put, List.getElem_toArray, List.getElem_cons_succ, List.getElem_cons_zero, List.setIfInBounds_toArray, List.set_cons_zero, List.set_cons_succ]
      refine wpAnyH_take (i := 21) (v := .agg #[.int .i64 k1, .bool b1, .int .i64 i1, .string t1, .string x1, .slice lp2 q1.length lc2]) rfl (by kernel_rfl) (by kernel_rfl) (by kernel_rfl) (fun _ _ _ h => h) (yieldsIf_load_mid (by rfl) 60 (.tmp 37) rfl g2 (o2 + j * 7 + 1) rfl [.int .i64 k1, .bool b1, .int .i64 i1, .string t1, .string x1, .slice lp2 q1.length lc2] _ (fun W' h => range_tail h.2) Tryz.underlying60 rfl size_valE) (⟨ra, rb⟩) ?_
      try simp only [Act.put, List.getElem_toArray, List.getElem_cons_succ, List.getElem_cons_zero, List.setIfInBounds_toArray, List.set_cons_zero, List.set_cons_succ]
      refine wpAnyH_ready (rs := [22]) (by kernel_rfl) (by simp) ?_
      refine AllReadyH.cons rfl (fun K hK => ?_) AllReadyH.nil
      have HSM := Lib.hid (sameValAt _ _ _ _ wD _ _ hw1 hw2)
      rw [sameP_self] at HSM
      rw [if_pos (by rfl)]
      go_simp
      refine HSM.out.mono ?_
      rintro e0 w3 ⟨rfl, hb3⟩
      replace ra := range_keep ra hb3
      replace rb := range_keep rb hb3
      replace hB := below_any hB hb3 hB.size
      clear hb3
      refine hK.out _ _ (⟨ra, rb⟩) (fun _ => ?_)
      clear hK K
      try simp only [Act.put, List.getElem_toArray, List.getElem_cons_succ, List.getElem_cons_zero, List.setIfInBounds_toArray, List.set_cons_zero, List.set_cons_succ]
      refine wpAnyH_take (i := 23) (v := .bool false) rfl (by kernel_rfl) (by kernel_rfl) (by kernel_rfl) (fun _ _ _ h => h) (Or.inl ⟨by rfl, fun W _ => by go_simp⟩) (⟨ra, rb⟩) ?_
      try simp only [Act.put, List.getElem_toArray, List.getElem_cons_succ, List.getElem_cons_zero, List.setIfInBounds_toArray, List.set_cons_zero, List.set_cons_succ]
      refine wpAnyH_take (i := 24) (v := .bool false) rfl (by kernel_rfl) (by kernel_rfl) (by kernel_rfl) (fun _ _ _ h => h) (Or.inl ⟨by rfl, fun W _ => by go_simp⟩) (⟨ra, rb⟩) ?_
      try simp only [Act.put, List.getElem_toArray, List.getElem_cons_succ, List.getElem_cons_zero, List.setIfInBounds_toArray, List.set_cons_zero, List.set_cons_succ]
      refine wpAnyH_done (by kernel_rfl) ?_ _
      clear ra rb hw1 hw2
      go_wp2_with fail
      go_roundg (gk - 1)
      case measure => omega
      case rel => exact ⟨j + 1, by omega, by go_num, Lib.hid hB⟩
    · go_wp2_with fail
      go_ret
      exact ⟨rfl, HB.out⟩
set_option maxHeartbeats 3200000 in
set_option maxRecDepth 20000 in
theorem eqNodeAt (a : NodeL) (c1 c2 : List Value) (W : World) (h1 : nodeE.rel W (Old W) c1 a) (h2 : nodeE.rel W (Old W) c2 a) : Calls Tryz.prog 21 #[.agg c1.toArray, .agg c2.toArray] W (YesB W) := by
  obtain ⟨id, ls, ps⟩ := a
  obtain ⟨lv1, pv1, rfl, hid, hn1, hn2, hl1, hp1⟩ := h1
  obtain ⟨lv2, pv2, rfl, _, _, _, hl2, hp2⟩ := h2
  replace hn1 : ls.length ≤ 2097152 := hn1
  replace hn2 : ps.length ≤ 2097152 := hn2
  obtain ⟨lp1, lc1, rfl⟩ := hl1.slice
  obtain ⟨lp2, lc2, rfl⟩ := hl2.slice
  obtain ⟨pp1, pc1, rfl⟩ := hp1.slice
  obtain ⟨pp2, pc2, rfl⟩ := hp2.slice
  have b0 : Below W.heap.size W ((W.alloc (.cells #[.int .i64 id, .slice lp1 ls.length lc1, .slice pp1 ps.length pc1] 38)).alloc (.cells #[.int .i64 id, .slice lp2 ls.length lc2, .slice pp2 ps.length pc2] 38)) := below2 _ _ _
  have u1 : ((W.alloc (.cells #[.int .i64 id, .slice lp1 ls.length lc1, .slice pp1 ps.length pc1] 38)).alloc (.cells #[.int .i64 id, .slice lp2 ls.length lc2, .slice pp2 ps.length pc2] 38)).heap[W.heap.size]? = some (.cells #[.int .i64 id, .slice lp1 ls.length lc1, .slice pp1 ps.length pc1] 38 (0, 0)) := heap_old _ (heap_new _ _ rfl)
  have u2 : ((W.alloc (.cells #[.int .i64 id, .slice lp1 ls.length lc1, .slice pp1 ps.length pc1] 38)).alloc (.cells #[.int .i64 id, .slice lp2 ls.length lc2, .slice pp2 ps.length pc2] 38)).heap[W.heap.size + 1]? = some (.cells #[.int .i64 id, .slice lp2 ls.length lc2, .slice pp2 ps.length pc2] 38 (0, 0)) := heap_new _ _ (by simp)
  obtain ⟨W0, hW0⟩ : ∃ W0, W0 = ((W.alloc (.cells #[.int .i64 id, .slice lp1 ls.length lc1, .slice pp1 ps.length pc1] 38)).alloc (.cells #[.int .i64 id, .slice lp2 ls.length lc2, .slice pp2 ps.length pc2] 38)) := ⟨_, rfl⟩
  rw [← hW0] at u1 u2 b0
  have H0 := Lib.hid hW0
  have HT : Hid (Calls Tryz.prog 51 #[.slice lp1 ls.length lc1, .slice lp2 ls.length lc2] W0 (YesB W0)) := Lib.hid (eqTextsAt _ _ ls W0 (strs_of_slice (hl1.stays (old_below b0))) (strs_of_slice (hl2.stays (old_below b0))) hn1)
  have HP : Hid (∀ W', Below W.heap.size W W' → Calls Tryz.prog 52 #[.slice pp1 ps.length pc1, .slice pp2 ps.length pc2] W' (YesB W')) := Lib.hid fun W' b => eqPropsAt _ _ ps W' (hp1.stays (old_below b)) (hp2.stays (old_below b)) hn2
  have k1 := cell_of u1 0 rfl
  have k2 := cell_of u2 0 rfl
  have k3 := cell_of u1 1 rfl
  have k4 := cell_of u2 1 rfl
  show Calls Tryz.prog 21 #[.agg #[.int .i64 id, .slice lp1 ls.length lc1, .slice pp1 ps.length pc1], .agg #[.int .i64 id, .slice lp2 ls.length lc2, .slice pp2 ps.length pc2]] W (YesB W)
  clear hW0 hl1 hl2 hp1 hp2 hn1 hn2 hid
  go_enter Tryz.func21, Tryz.ntmps21
  go_upto_region 1 with fail
  rw [← H0.out]
  go_wp2_with (first
    | (go_at_call 51; (with_reducible refine HT.out.mono ?_); rintro e w1 ⟨rfl, hb1⟩
       have b1 := below_any b0 hb1 b0.size
       have k5 := cell_of ((hb1.block _ (lt_of_heap u1)).trans u1) 2 rfl
       have k6 := cell_of ((hb1.block _ (lt_of_heap u2)).trans u2) 2 rfl)
    | (go_at_call 52; (with_reducible refine (HP.out _ b1).mono ?_); rintro e w2 ⟨rfl, hb2⟩))
  go_ret
  exact ⟨rfl, below_any b1 hb2 b1.size⟩
set_option maxHeartbeats 3200000 in
set_option maxRecDepth 20000 in
theorem eqEdgeAt (a : EdgeL) (c1 c2 : List Value) (W : World) (h1 : edgeE.rel W (Old W) c1 a) (h2 : edgeE.rel W (Old W) c2 a) : Calls Tryz.prog 22 #[.agg c1.toArray, .agg c2.toArray] W (YesB W) := by
  obtain ⟨id, src, dst, ty, ps⟩ := a
  obtain ⟨pv1, rfl, hid, hn1, hn2, hp1⟩ := h1
  obtain ⟨pv2, rfl, _, _, _, hp2⟩ := h2
  replace hn2 : ps.length ≤ 2097152 := hn2
  obtain ⟨pp1, pc1, rfl⟩ := hp1.slice
  obtain ⟨pp2, pc2, rfl⟩ := hp2.slice
  have b0 : Below W.heap.size W ((W.alloc (.cells #[.int .i64 id, .int .i64 src, .int .i64 dst, .string ty, .slice pp1 ps.length pc1] 41)).alloc (.cells #[.int .i64 id, .int .i64 src, .int .i64 dst, .string ty, .slice pp2 ps.length pc2] 41)) := below2 _ _ _
  have u1 : ((W.alloc (.cells #[.int .i64 id, .int .i64 src, .int .i64 dst, .string ty, .slice pp1 ps.length pc1] 41)).alloc (.cells #[.int .i64 id, .int .i64 src, .int .i64 dst, .string ty, .slice pp2 ps.length pc2] 41)).heap[W.heap.size]? = some (.cells #[.int .i64 id, .int .i64 src, .int .i64 dst, .string ty, .slice pp1 ps.length pc1] 41 (0, 0)) := heap_old _ (heap_new _ _ rfl)
  have u2 : ((W.alloc (.cells #[.int .i64 id, .int .i64 src, .int .i64 dst, .string ty, .slice pp1 ps.length pc1] 41)).alloc (.cells #[.int .i64 id, .int .i64 src, .int .i64 dst, .string ty, .slice pp2 ps.length pc2] 41)).heap[W.heap.size + 1]? = some (.cells #[.int .i64 id, .int .i64 src, .int .i64 dst, .string ty, .slice pp2 ps.length pc2] 41 (0, 0)) := heap_new _ _ (by simp)
  obtain ⟨W0, hW0⟩ : ∃ W0, W0 = ((W.alloc (.cells #[.int .i64 id, .int .i64 src, .int .i64 dst, .string ty, .slice pp1 ps.length pc1] 41)).alloc (.cells #[.int .i64 id, .int .i64 src, .int .i64 dst, .string ty, .slice pp2 ps.length pc2] 41)) := ⟨_, rfl⟩
  rw [← hW0] at u1 u2 b0
  have H0 := Lib.hid hW0
  have HP : Hid (∀ W', Below W.heap.size W W' → Calls Tryz.prog 52 #[.slice pp1 ps.length pc1, .slice pp2 ps.length pc2] W' (YesB W')) := Lib.hid fun W' b => eqPropsAt _ _ ps W' (hp1.stays (old_below b)) (hp2.stays (old_below b)) hn2
  have k1 := cell_of u1 0 rfl
  have k2 := cell_of u2 0 rfl
  have k3 := cell_of u1 1 rfl
  have k4 := cell_of u2 1 rfl
  have k5 := cell_of u1 2 rfl
  have k6 := cell_of u2 2 rfl
  have k7 := cell_of u1 3 rfl
  have k8 := cell_of u2 3 rfl
  have k9 := cell_of u1 4 rfl
  have k10 := cell_of u2 4 rfl
  show Calls Tryz.prog 22 #[.agg #[.int .i64 id, .int .i64 src, .int .i64 dst, .string ty, .slice pp1 ps.length pc1], .agg #[.int .i64 id, .int .i64 src, .int .i64 dst, .string ty, .slice pp2 ps.length pc2]] W (YesB W)
  clear hW0 hp1 hp2 hn1 hn2 hid
  go_enter Tryz.func22, Tryz.ntmps22
  go_upto_region 1 with fail
  rw [← H0.out]
  go_wp2_with (first
    | (go_at_call 52; (with_reducible refine (HP.out _ b0).mono ?_); rintro e w2 ⟨rfl, hb2⟩))
  go_ret
  exact ⟨rfl, below_any b0 hb2 b0.size⟩
set_option maxHeartbeats 6400000 in
set_option maxRecDepth 20000 in
theorem eqGraphAt (g : GraphL) (vn ve un ue : Value) (W : World) (h1 : SliceE nodeE W (Old W) vn g.nodes) (h2 : SliceE edgeE W (Old W) ve g.edges) (h3 : SliceE nodeE W (Old W) un g.nodes) (h4 : SliceE edgeE W (Old W) ue g.edges) (hn1 : g.nodes.length ≤ 2097152) (hn2 : g.edges.length ≤ 2097152) :
    Calls Tryz.prog 12 #[.agg #[vn, ve], .agg #[un, ue]] W (YesB W) := by
  obtain ⟨p1, c1, rfl⟩ := h1.slice
  obtain ⟨p2, c2, rfl⟩ := h2.slice
  obtain ⟨p3, c3, rfl⟩ := h3.slice
  obtain ⟨p4, c4, rfl⟩ := h4.slice
  obtain ⟨n1, hl1⟩ : ∃ n, n = g.nodes.length := ⟨_, rfl⟩
  obtain ⟨n2, hl2⟩ : ∃ n, n = g.edges.length := ⟨_, rfl⟩
  rw [← hl1, ← hl2]
  rw [← hl1] at h1 h3 hn1
  rw [← hl2] at h2 h4 hn2
  have b0 : Below W.heap.size W ((W.alloc (.cells #[.slice p1 n1 c1, .slice p2 n2 c2] 25)).alloc (.cells #[.slice p3 n1 c3, .slice p4 n2 c4] 25)) := below2 _ _ _
  have u1 : ((W.alloc (.cells #[.slice p1 n1 c1, .slice p2 n2 c2] 25)).alloc (.cells #[.slice p3 n1 c3, .slice p4 n2 c4] 25)).heap[W.heap.size]? = some (.cells #[.slice p1 n1 c1, .slice p2 n2 c2] 25 (0, 0)) := heap_old _ (heap_new _ _ rfl)
  have u2 : ((W.alloc (.cells #[.slice p1 n1 c1, .slice p2 n2 c2] 25)).alloc (.cells #[.slice p3 n1 c3, .slice p4 n2 c4] 25)).heap[W.heap.size + 1]? = some (.cells #[.slice p3 n1 c3, .slice p4 n2 c4] 25 (0, 0)) := heap_new _ _ (by simp)
  obtain ⟨W0, hW0⟩ : ∃ W0, W0 = ((W.alloc (.cells #[.slice p1 n1 c1, .slice p2 n2 c2] 25)).alloc (.cells #[.slice p3 n1 c3, .slice p4 n2 c4] 25)) := ⟨_, rfl⟩
  rw [← hW0] at u1 u2 b0
  have H0 := Lib.hid hW0
  have H1 := Lib.hid (h1.stays (old_below b0))
  have H2 := Lib.hid (h2.stays (old_below b0))
  have H3 := Lib.hid (h3.stays (old_below b0))
  have H4 := Lib.hid (h4.stays (old_below b0))
  have HL := Lib.hid (And.intro hl1 hl2)
  have HU := Lib.hid (And.intro u1 u2)
  have k0 := cell_of u1 0 rfl
  have k1 := cell_of u1 1 rfl
  have k2 := cell_of u2 0 rfl
  have k3 := cell_of u2 1 rfl
  clear hW0 h1 h2 h3 h4 hl1 hl2
  go_enter Tryz.func12, Tryz.ntmps12
  go_upto_region 1 with fail
  rw [← H0.out]
  go_upto_block 0 with fail
  clear k0 k1 k2 k3 u1 u2
  go_cut [5] (fun _ wx => Hid (Below W0.heap.size W0 wx))
  case first =>
    go_wp2_with fail
    go_loopg [5] n1 (fun gg s5 wr => ∃ i : Nat, i + gg = n1 ∧ s5 = .int .i64 i ∧ Hid (Below W0.heap.size W0 wr))
    case atStart => exact ⟨0, by omega, rfl, Lib.hid (Below.refl _ _)⟩
    case round =>
      obtain ⟨i, hig, rfl, HB⟩ := hrel
      have u1 := (HB.out.block _ (lt_of_heap HU.out.1)).trans HU.out.1
      have u2 := (HB.out.block _ (lt_of_heap HU.out.2)).trans HU.out.2
      have k0 := cell_of u1 0 rfl
      by_cases hi : (i : Int) < n1
      · have hi1 : i < g.nodes.length := by have := HL.out.1; omega
        obtain ⟨g1, o1, d1, cc1, e1, hg1, hr1, hra1⟩ := (H1.out.stays (old_below HB.out)).at_ i hi1
        obtain ⟨g2, o2, d2, cc2, e2, hg2, hr2, hra2⟩ := (H3.out.stays (old_below HB.out)).at_ i hi1
        injection e1 with e11 e12 e13
        injection e2 with e21 e22 e23
        subst e11 e21
        obtain ⟨a, ha⟩ : ∃ a, a = g.nodes[i] := ⟨_, rfl⟩
        rw [← ha] at hr1 hr2
        have hl1 : cc1.length = 3 := nodeE.len hr1
        have hl2 : cc2.length = 3 := nodeE.len hr2
        have hw1 := hr1
        have hw2 := hr2
        obtain ⟨lv1, pv1, rfl, _⟩ := hr1
        obtain ⟨lv2, pv2, rfl, _⟩ := hr2
        obtain ⟨id, hid⟩ : ∃ id, id = a.id := ⟨_, rfl⟩
        rw [← hid] at hra1 hra2 hw1 hw2
        have ra : wr.rangeAt g1 (o1 + i * 3) [.int .i64 id, lv1, pv1] := hra1
        have rb : wr.rangeAt g2 (o2 + i * 3) [.int .i64 id, lv2, pv2] := hra2
        have hB := HB.out
        clear hra1 hra2 ha e12 e13 e22 e23 hid hl1 hl2
        go_upto_region 6 with fail
        clear k0
        refine wp_region_held_drew (S := fun W' => W'.heap[W.heap.size]? = some (.cells #[.slice (some ⟨g1, o1, none⟩) n1 c1, .slice p2 n2 c2] 25 (0, 0)) ∧ W'.heap[W.heap.size + 1]? = some (.cells #[.slice (some ⟨g2, o2, none⟩) n1 c3, .slice p4 n2 c4] 25 (0, 0)) ∧ W'.rangeAt g1 (o1 + i * 3) [.int .i64 id, lv1, pv1] ∧ W'.rangeAt g2 (o2 + i * 3) [.int .i64 id, lv2, pv2]) (by kernel_rfl) ⟨u1, u2, ra, rb⟩ (fun _ => ?_)
        replace u1 : wr.drew.heap[W.heap.size]? = _ := u1
        replace u2 : wr.drew.heap[W.heap.size + 1]? = _ := u2
        replace ra := range_keep ra (Below.refl wr.heap.size wr).drew
        replace rb := range_keep rb (Below.refl wr.heap.size wr).drew
        replace hw1 := nodeE.stays (old_below (Below.refl wr.heap.size wr).drew) hw1
        replace hw2 := nodeE.stays (old_below (Below.refl wr.heap.size wr).drew) hw2
        replace hB := hB.drew
        have HEQ := Lib.hid (eqNodeAt a _ _ wr.drew hw1 hw2)
        clear hw1 hw2 HB
        generalize wr.drew = wD at *
        refine wpAnyH_take (i := 0) (v := .pointer (some ⟨W.heap.size, 0, none⟩)) rfl (by kernel_rfl) (by kernel_rfl) (by kernel_rfl) (fun _ _ _ h => h) (Or.inl ⟨by rfl, fun W _ => by go_simp⟩) (⟨u1, u2, ra, rb⟩) ?_
        try simp only [Act.put, List.getElem_toArray, List.getElem_cons_succ, List.getElem_cons_zero, List.setIfInBounds_toArray, List.set_cons_zero, List.set_cons_succ]
        refine wpAnyH_take (i := 2) (v := .int .i64 (i : Int)) rfl (by kernel_rfl) (by kernel_rfl) (by kernel_rfl) (fun _ _ _ h => h) (Or.inl ⟨by rfl, fun W _ => by go_simp⟩) (⟨u1, u2, ra, rb⟩) ?_
        try simp only [Act.put, List.getElem_toArray, List.getElem_cons_succ, List.getElem_cons_zero, List.setIfInBounds_toArray, List.set_cons_zero, List.set_cons_succ]
        refine wpAnyH_take (i := 5) (v := .pointer (some ⟨W.heap.size + 1, 0, none⟩)) rfl (by kernel_rfl) (by kernel_rfl) (by kernel_rfl) (fun _ _ _ h => h) (Or.inl ⟨by rfl, fun W _ => by go_simp⟩) (⟨u1, u2, ra, rb⟩) ?_
        try simp only [Act.put, List.getElem_toArray, List.getElem_cons_succ, List.getElem_cons_zero, List.setIfInBounds_toArray, List.set_cons_zero, List.set_cons_succ]
        refine wpAnyH_take (i := 7) (v := .int .i64 (i : Int)) rfl (by kernel_rfl) (by kernel_rfl) (by kernel_rfl) (fun _ _ _ h => h) (Or.inl ⟨by rfl, fun W _ => by go_simp⟩) (⟨u1, u2, ra, rb⟩) ?_
        try simp only [Act.put, List.getElem_toArray, List.getElem_cons_succ, List.getElem_cons_zero, List.setIfInBounds_toArray, List.set_cons_zero, List.set_cons_succ]
        refine wpAnyH_take (i := 1) (v := .slice (some ⟨g1, o1, none⟩) n1 c1) rfl (by kernel_rfl) (by kernel_rfl) (by kernel_rfl) (fun _ _ _ h => h) (Or.inl ⟨by rfl, fun W' h => by have c0 := cell_of h.1 0 rfl; go_simp⟩) (⟨u1, u2, ra, rb⟩) ?_
        try simp only [Act.put, List.getElem_toArray, List.getElem_cons_succ, List.getElem_cons_zero, List.setIfInBounds_toArray, List.set_cons_zero, List.set_cons_succ]
        refine wpAnyH_take (i := 6) (v := .slice (some ⟨g2, o2, none⟩) n1 c3) rfl (by kernel_rfl) (by kernel_rfl) (by kernel_rfl) (fun _ _ _ h => h) (Or.inl ⟨by rfl, fun W' h => by have c0 := cell_of h.2.1 0 rfl; go_simp⟩) (⟨u1, u2, ra, rb⟩) ?_
        try simp only [Act.put, List.getElem_toArray, List.getElem_cons_succ, List.getElem_cons_zero, List.setIfInBounds_toArray, List.set_cons_zero, List.set_cons_succ]
        refine wpAnyH_take (i := 3) (v := .pointer (some ⟨g1, o1 + i * 3, none⟩)) rfl (by kernel_rfl) (by kernel_rfl) (by kernel_rfl) (fun _ _ _ h => h) (Or.inl ⟨by rfl, fun W _ => by go_simp⟩) (⟨u1, u2, ra, rb⟩) ?_
        try simp only [Act.put, List.getElem_toArray, List.getElem_cons_succ, List.getElem_cons_zero, List.setIfInBounds_toArray, List.set_cons_zero, List.set_cons_succ]
        refine wpAnyH_take (i := 8) (v := .pointer (some ⟨g2, o2 + i * 3, none⟩)) rfl (by kernel_rfl) (by kernel_rfl) (by kernel_rfl) (fun _ _ _ h => h) (Or.inl ⟨by rfl, fun W _ => by go_simp⟩) (⟨u1, u2, ra, rb⟩) ?_
        try simp only [Act.put, List.getElem_toArray, List.getElem_cons_succ, List.getElem_cons_zero, List.setIfInBounds_toArray, List.set_cons_zero, List.set_cons_succ]
        refine wpAnyH_take (i := 4) (v := .agg #[.int .i64 id, lv1, pv1]) rfl (by kernel_rfl) (by kernel_rfl) (by kernel_rfl) (fun _ _ _ h => h) (yieldsIf_load_mid (by rfl) 38 (.tmp 33) rfl g1 (o1 + i * 3) rfl [.int .i64 id, lv1, pv1] _ (fun W' h => h.2.2.1) Tryz.underlying38 rfl size_nodeE) (⟨u1, u2, ra, rb⟩) ?_
        try simp only [Act.put, List.getElem_toArray, List.getElem_cons_succ, List.getElem_cons_zero, List.setIfInBounds_toArray, List.set_cons_zero, List.set_cons_succ]
        refine wpAnyH_take (i := 9) (v := .agg #[.int .i64 id, lv2, pv2]) rfl (by kernel_rfl) (by kernel_rfl) (by kernel_rfl) (fun _ _ _ h => h) (yieldsIf_load_mid (by rfl) 38 (.tmp 38) rfl g2 (o2 + i * 3) rfl [.int .i64 id, lv2, pv2] _ (fun W' h => h.2.2.2) Tryz.underlying38 rfl size_nodeE) (⟨u1, u2, ra, rb⟩) ?_
        try simp only [Act.put, List.getElem_toArray, List.getElem_cons_succ, List.getElem_cons_zero, List.setIfInBounds_toArray, List.set_cons_zero, List.set_cons_succ]
        refine wpAnyH_ready (rs := [10]) (by kernel_rfl) (by simp) ?_
        refine AllReadyH.cons rfl (fun K hK => ?_) AllReadyH.nil
        rw [if_pos (by rfl)]
        go_simp
        refine HEQ.out.mono ?_
        rintro e0 w3 ⟨rfl, hb3⟩
        replace u1 := (hb3.block _ (lt_of_heap u1)).trans u1
        replace u2 := (hb3.block _ (lt_of_heap u2)).trans u2
        replace ra := range_keep ra hb3
        replace rb := range_keep rb hb3
        replace hB := below_any hB hb3 hB.size
        clear hb3
        refine hK.out _ _ (⟨u1, u2, ra, rb⟩) (fun _ => ?_)
        clear hK K
        try simp only [Act.put, List.getElem_toArray, List.getElem_cons_succ, List.getElem_cons_zero, List.setIfInBounds_toArray, List.set_cons_zero, List.set_cons_succ]
        refine wpAnyH_take (i := 11) (v := .bool false) rfl (by kernel_rfl) (by kernel_rfl) (by kernel_rfl) (fun _ _ _ h => h) (Or.inl ⟨by rfl, fun W _ => by go_simp⟩) (⟨u1, u2, ra, rb⟩) ?_
        try simp only [Act.put, List.getElem_toArray, List.getElem_cons_succ, List.getElem_cons_zero, List.setIfInBounds_toArray, List.set_cons_zero, List.set_cons_succ]
        refine wpAnyH_done (by kernel_rfl) ?_ _
        clear u1 u2 ra rb
        go_wp2_with fail
        go_roundg (gk - 1)
        case measure => omega
        case rel => exact ⟨i + 1, by omega, by go_num, Lib.hid hB⟩
      · go_wp2_with fail
        go_meet
        case rel => exact HB
  case rest =>
    have HB0 := hcut
    clear hcut
    go_wp2_with fail
    go_loopg [6] n2 (fun gg s6 wr => ∃ i : Nat, i + gg = n2 ∧ s6 = .int .i64 i ∧ Hid (Below W0.heap.size W0 wr))
    case atStart => exact ⟨0, by omega, rfl, HB0⟩
    case round =>
      obtain ⟨i, hig, rfl, HB⟩ := hrel
      have u1 := (HB.out.block _ (lt_of_heap HU.out.1)).trans HU.out.1
      have u2 := (HB.out.block _ (lt_of_heap HU.out.2)).trans HU.out.2
      have k0 := cell_of u1 1 rfl
      by_cases hi : (i : Int) < n2
      · have hi1 : i < g.edges.length := by have := HL.out.2; omega
        obtain ⟨g1, o1, d1, cc1, e1, hg1, hr1, hra1⟩ := (H2.out.stays (old_below HB.out)).at_ i hi1
        obtain ⟨g2, o2, d2, cc2, e2, hg2, hr2, hra2⟩ := (H4.out.stays (old_below HB.out)).at_ i hi1
        injection e1 with e11 e12 e13
        injection e2 with e21 e22 e23
        subst e11 e21
        obtain ⟨a, ha⟩ : ∃ a, a = g.edges[i] := ⟨_, rfl⟩
        rw [← ha] at hr1 hr2
        have hw1 := hr1
        have hw2 := hr2
        obtain ⟨pv1, rfl, _⟩ := hr1
        obtain ⟨pv2, rfl, _⟩ := hr2
        obtain ⟨id, src, dst, ty, ps⟩ := a
        have ra : wr.rangeAt g1 (o1 + i * 5) [.int .i64 id, .int .i64 src, .int .i64 dst, .string ty, pv1] := hra1
        have rb : wr.rangeAt g2 (o2 + i * 5) [.int .i64 id, .int .i64 src, .int .i64 dst, .string ty, pv2] := hra2
        have hx1 : edgeE.rel wr (Old wr) [.int .i64 id, .int .i64 src, .int .i64 dst, .string ty, pv1] ⟨id, src, dst, ty, ps⟩ := hw1
        have hx2 : edgeE.rel wr (Old wr) [.int .i64 id, .int .i64 src, .int .i64 dst, .string ty, pv2] ⟨id, src, dst, ty, ps⟩ := hw2
        have hB := HB.out
        clear hra1 hra2 ha e12 e13 e22 e23 hw1 hw2
        go_upto_region 11 with fail
        clear k0
        refine wp_region_held_drew (S := fun W' => W'.heap[W.heap.size]? = some (.cells #[.slice p1 n1 c1, .slice (some ⟨g1, o1, none⟩) n2 c2] 25 (0, 0)) ∧ W'.heap[W.heap.size + 1]? = some (.cells #[.slice p3 n1 c3, .slice (some ⟨g2, o2, none⟩) n2 c4] 25 (0, 0)) ∧ W'.rangeAt g1 (o1 + i * 5) [.int .i64 id, .int .i64 src, .int .i64 dst, .string ty, pv1] ∧ W'.rangeAt g2 (o2 + i * 5) [.int .i64 id, .int .i64 src, .int .i64 dst, .string ty, pv2]) (by kernel_rfl) ⟨u1, u2, ra, rb⟩ (fun _ => ?_)
        replace u1 : wr.drew.heap[W.heap.size]? = _ := u1
        replace u2 : wr.drew.heap[W.heap.size + 1]? = _ := u2
        replace ra := range_keep ra (Below.refl wr.heap.size wr).drew
        replace rb := range_keep rb (Below.refl wr.heap.size wr).drew
        replace hx1 := edgeE.stays (old_below (Below.refl wr.heap.size wr).drew) hx1
        replace hx2 := edgeE.stays (old_below (Below.refl wr.heap.size wr).drew) hx2
        replace hB := hB.drew
        have HEQ := Lib.hid (eqEdgeAt _ _ _ wr.drew hx1 hx2)
        clear hx1 hx2 HB
        generalize wr.drew = wD at *
        refine wpAnyH_take (i := 0) (v := .pointer (some ⟨W.heap.size, 1, none⟩)) rfl (by kernel_rfl) (by kernel_rfl) (by kernel_rfl) (fun _ _ _ h => h) (Or.inl ⟨by rfl, fun W _ => by go_simp⟩) (⟨u1, u2, ra, rb⟩) ?_
        try simp only [Act.put, List.getElem_toArray, List.getElem_cons_succ, List.getElem_cons_zero, List.setIfInBounds_toArray, List.set_cons_zero, List.set_cons_succ]
        refine wpAnyH_take (i := 2) (v := .int .i64 (i : Int)) rfl (by kernel_rfl) (by kernel_rfl) (by kernel_rfl) (fun _ _ _ h => h) (Or.inl ⟨by rfl, fun W _ => by go_simp⟩) (⟨u1, u2, ra, rb⟩) ?_
        try simp only [Act.put, List.getElem_toArray, List.getElem_cons_succ, List.getElem_cons_zero, List.setIfInBounds_toArray, List.set_cons_zero, List.set_cons_succ]
        refine wpAnyH_take (i := 5) (v := .pointer (some ⟨W.heap.size + 1, 1, none⟩)) rfl (by kernel_rfl) (by kernel_rfl) (by kernel_rfl) (fun _ _ _ h => h) (Or.inl ⟨by rfl, fun W _ => by go_simp⟩) (⟨u1, u2, ra, rb⟩) ?_
        try simp only [Act.put, List.getElem_toArray, List.getElem_cons_succ, List.getElem_cons_zero, List.setIfInBounds_toArray, List.set_cons_zero, List.set_cons_succ]
        refine wpAnyH_take (i := 7) (v := .int .i64 (i : Int)) rfl (by kernel_rfl) (by kernel_rfl) (by kernel_rfl) (fun _ _ _ h => h) (Or.inl ⟨by rfl, fun W _ => by go_simp⟩) (⟨u1, u2, ra, rb⟩) ?_
        try simp only [Act.put, List.getElem_toArray, List.getElem_cons_succ, List.getElem_cons_zero, List.setIfInBounds_toArray, List.set_cons_zero, List.set_cons_succ]
        refine wpAnyH_take (i := 1) (v := .slice (some ⟨g1, o1, none⟩) n2 c2) rfl (by kernel_rfl) (by kernel_rfl) (by kernel_rfl) (fun _ _ _ h => h) (Or.inl ⟨by rfl, fun W' h => by have c0 := cell_of h.1 1 rfl; go_simp⟩) (⟨u1, u2, ra, rb⟩) ?_
        try simp only [Act.put, List.getElem_toArray, List.getElem_cons_succ, List.getElem_cons_zero, List.setIfInBounds_toArray, List.set_cons_zero, List.set_cons_succ]
        refine wpAnyH_take (i := 6) (v := .slice (some ⟨g2, o2, none⟩) n2 c4) rfl (by kernel_rfl) (by kernel_rfl) (by kernel_rfl) (fun _ _ _ h => h) (Or.inl ⟨by rfl, fun W' h => by have c0 := cell_of h.2.1 1 rfl; go_simp⟩) (⟨u1, u2, ra, rb⟩) ?_
        try simp only [Act.put, List.getElem_toArray, List.getElem_cons_succ, List.getElem_cons_zero, List.setIfInBounds_toArray, List.set_cons_zero, List.set_cons_succ]
        refine wpAnyH_take (i := 3) (v := .pointer (some ⟨g1, o1 + i * 5, none⟩)) rfl (by kernel_rfl) (by kernel_rfl) (by kernel_rfl) (fun _ _ _ h => h) (Or.inl ⟨by rfl, fun W _ => by go_simp⟩) (⟨u1, u2, ra, rb⟩) ?_
        try simp only [Act.put, List.getElem_toArray, List.getElem_cons_succ, List.getElem_cons_zero, List.setIfInBounds_toArray, List.set_cons_zero, List.set_cons_succ]
        refine wpAnyH_take (i := 8) (v := .pointer (some ⟨g2, o2 + i * 5, none⟩)) rfl (by kernel_rfl) (by kernel_rfl) (by kernel_rfl) (fun _ _ _ h => h) (Or.inl ⟨by rfl, fun W _ => by go_simp⟩) (⟨u1, u2, ra, rb⟩) ?_
        try simp only [Act.put, List.getElem_toArray, List.getElem_cons_succ, List.getElem_cons_zero, List.setIfInBounds_toArray, List.set_cons_zero, List.set_cons_succ]
        refine wpAnyH_take (i := 4) (v := .agg #[.int .i64 id, .int .i64 src, .int .i64 dst, .string ty, pv1]) rfl (by kernel_rfl) (by kernel_rfl) (by kernel_rfl) (fun _ _ _ h => h) (yieldsIf_load_mid (by rfl) 41 (.tmp 52) rfl g1 (o1 + i * 5) rfl [.int .i64 id, .int .i64 src, .int .i64 dst, .string ty, pv1] _ (fun W' h => h.2.2.1) Tryz.underlying41 rfl size_edgeE) (⟨u1, u2, ra, rb⟩) ?_
        try simp only [Act.put, List.getElem_toArray, List.getElem_cons_succ, List.getElem_cons_zero, List.setIfInBounds_toArray, List.set_cons_zero, List.set_cons_succ]
        refine wpAnyH_take (i := 9) (v := .agg #[.int .i64 id, .int .i64 src, .int .i64 dst, .string ty, pv2]) rfl (by kernel_rfl) (by kernel_rfl) (by kernel_rfl) (fun _ _ _ h => h) (yieldsIf_load_mid (by rfl) 41 (.tmp 57) rfl g2 (o2 + i * 5) rfl [.int .i64 id, .int .i64 src, .int .i64 dst, .string ty, pv2] _ (fun W' h => h.2.2.2) Tryz.underlying41 rfl size_edgeE) (⟨u1, u2, ra, rb⟩) ?_
        try simp only [Act.put, List.getElem_toArray, List.getElem_cons_succ, List.getElem_cons_zero, List.setIfInBounds_toArray, List.set_cons_zero, List.set_cons_succ]
        refine wpAnyH_ready (rs := [10]) (by kernel_rfl) (by simp) ?_
        refine AllReadyH.cons rfl (fun K hK => ?_) AllReadyH.nil
        rw [if_pos (by rfl)]
        go_simp
        refine HEQ.out.mono ?_
        rintro e0 w3 ⟨rfl, hb3⟩
        replace u1 := (hb3.block _ (lt_of_heap u1)).trans u1
        replace u2 := (hb3.block _ (lt_of_heap u2)).trans u2
        replace ra := range_keep ra hb3
        replace rb := range_keep rb hb3
        replace hB := below_any hB hb3 hB.size
        clear hb3
        refine hK.out _ _ (⟨u1, u2, ra, rb⟩) (fun _ => ?_)
        clear hK K
        try simp only [Act.put, List.getElem_toArray, List.getElem_cons_succ, List.getElem_cons_zero, List.setIfInBounds_toArray, List.set_cons_zero, List.set_cons_succ]
        refine wpAnyH_take (i := 11) (v := .bool false) rfl (by kernel_rfl) (by kernel_rfl) (by kernel_rfl) (fun _ _ _ h => h) (Or.inl ⟨by rfl, fun W _ => by go_simp⟩) (⟨u1, u2, ra, rb⟩) ?_
        try simp only [Act.put, List.getElem_toArray, List.getElem_cons_succ, List.getElem_cons_zero, List.setIfInBounds_toArray, List.set_cons_zero, List.set_cons_succ]
        refine wpAnyH_done (by kernel_rfl) ?_ _
        clear u1 u2 ra rb
        go_wp2_with fail
        go_roundg (gk - 1)
        case measure => omega
        case rel => exact ⟨i + 1, by omega, by go_num, Lib.hid hB⟩
      · go_wp2_with fail
        go_ret
        exact ⟨rfl, below_any b0 HB.out b0.size⟩
end Go.Proofs.YtcfmenkigolnoaaGreatDoor

/- Labels and types, in several and in each (pure). -/
namespace Go.Proofs.YtcfmenkigolnoaaGreatDoor
open Go.RowKit

theorem hopsL_len (g : GraphL) (w : Way) (ts : List ByteArray) : (hopsL g w ts).length ≤ g.edges.length := by
  unfold hopsL
  refine filter_le _ _ _ (filter_le _ _ _ ?_)
  rw [numsE_len]
  exact Nat.le_refl _
set_option maxHeartbeats 1600000 in
set_option maxRecDepth 20000 in
/-- The law's own has. -/
theorem lawHasAt (V : Value) (xs : List Int) (x : Int) (W : World) (h : IntsAt W V xs) (hn : xs.length ≤ 2097152) :
    Calls Tryz.prog 33 #[V, .int .i64 x] W fun e w' => e = .returned (.bool (xs.contains x)) ∧ W = w' := by
  obtain ⟨p, cap, rfl, hc⟩ := h
  obtain ⟨n, hl⟩ : ∃ n, n = xs.length := ⟨_, rfl⟩
  obtain ⟨r, hr⟩ : ∃ r, r = xs.contains x := ⟨_, rfl⟩
  rw [← hr, ← hl]
  rw [← hl] at hn
  have HC := Lib.hid hc
  have HL := Lib.hid hl
  have HR := Lib.hid hr
  clear hc hl hr
  go_enter Tryz.func33, Tryz.ntmps33
  go_wp2_with fail
  go_loopg [5] n (fun gg s5 wr => ∃ j : Nat, j + gg = n ∧ s5 = .int .i64 j ∧ Hid (∀ t (h : t < xs.length), t < j → xs[t] ≠ x) ∧ wr = W)
  case atStart => exact ⟨0, by omega, rfl, Lib.hid (fun t _ h => absurd h (by omega)), rfl⟩
  case round =>
    obtain ⟨j, hjg, rfl, HA, rfl⟩ := hrel
    by_cases hj : (j : Int) < n
    · have hj1 : j < xs.length := by have := HL.out; omega
      obtain ⟨g, off, rfl, hcj⟩ := HC.out (by intro q; rw [q] at hj1; simp at hj1)
      obtain ⟨y, hy⟩ : ∃ y, y = xs[j] := ⟨_, rfl⟩
      have cj : wr.cell? ⟨g, off + j, none⟩ = some (.int .i64 y) := by
        rw [hcj j hj1, hy]
        simp [hj1]
      have HY := Lib.hid hy
      clear hcj hy
      by_cases q : y = x
      · subst q
        obtain rfl : r = true := by
          rw [HR.out, List.contains_iff_mem, HY.out]
          exact List.getElem_mem hj1
        go_wp2_with fail
        go_ret
        exact ⟨rfl, rfl⟩
      · have q2 : (y == x) = false := by simpa using q
        have HA2 : Hid (∀ t (h : t < xs.length), t < j + 1 → xs[t] ≠ x) := Lib.hid fun t h1 h2 => by
          by_cases e : t = j
          · subst e
            rw [← HY.out]
            exact q
          · exact HA.out t h1 (by omega)
        clear q
        go_wp2_with fail
        go_roundg (gk - 1)
        case measure => omega
        case rel => exact ⟨j + 1, by omega, by go_num, HA2, rfl⟩
    · obtain rfl : r = false := by
        rw [HR.out, Bool.eq_false_iff]
        intro h
        obtain ⟨t, ht, e⟩ := List.getElem_of_mem (List.contains_iff_mem.1 h)
        exact HA.out t ht (by have := HL.out; omega) e
      go_wp2_with fail
      go_ret
      exact ⟨rfl, rfl⟩
end Go.Proofs.YtcfmenkigolnoaaGreatDoor
