/- Texts of one kind, one behind the other: each says ahead of itself what it shows. -/
import Derived.Test.YtcfmenkigolnoaaGreatDoorQat
/- The law GraphProps: each property is told as it was handed in, by its key. -/
namespace Go.Proofs.YtcfmenkigolnoaaGreatDoor
open Go.RowKit

theorem val_null {W : World} {P : Nat → Prop} {c : List Value} (h : valE.rel W P c nullV) : ∃ p cap, c = [.int .i64 0, .bool false, .int .i64 0, .string ⟨#[]⟩, .string ⟨#[]⟩, .slice p 0 cap] := by
  obtain ⟨L, rfl, _, hq⟩ := h
  obtain ⟨p, cap, rfl⟩ := held_slice (HeldF.held _ hq)
  exact ⟨p, cap, rfl⟩
/-- What stands while the law runs: the store, the graph's box, the graph. -/
structure Run (s gb : Nat) (vn ve : Value) (g : GraphL) (W : World) : Prop where
  st : StoreE W s g
  box : W.heap[gb]? = some (.cells #[vn, ve] 25 (0, 0))
  ns : SliceE nodeE W (Old W) vn g.nodes
  es : SliceE edgeE W (Old W) ve g.edges
theorem Run.below {W W' : World} {s gb : Nat} {vn ve : Value} {g : GraphL} (h : Run s gb vn ve g W) (b : Below W.heap.size W W') : Run s gb vn ve g W' :=
  ⟨h.st.below b, (b.block _ (lt_of_heap h.box)).trans h.box, h.ns.stays (old_below b), h.es.stays (old_below b)⟩
theorem cell_below {W W' : World} {p : Addr} {v : Value} (h : W.cell? p = some v) (b : Below W.heap.size W W') : W'.cell? p = some v := (b.cell (p := p) (World.block_lt_of_cell? W _ h)).trans h
theorem range_keep {W W' : World} {g o : Nat} {c : List Value} (h : W.rangeAt g o c) (b : Below W.heap.size W W') : W'.rangeAt g o c := fun j u hj => cell_below (h j u hj) b
/-- Prop, asked for a value that is known. -/
def TellV (W : World) (v : Val) (e : Ending) (w' : World) : Prop := ∃ c, e = .returned (.agg c.toArray) ∧ valE.rel w' (Old w') c v ∧ Below W.heap.size W w'
theorem askProp (W : World) (s : Nat) (g : GraphL) (h : StoreE W s g) (k n : Int) (hn : (Lit.int .i64 n).wf = true) (ky : ByteArray) (v : Val) (hv : ∀ r, PropIs g k n ky r → r = v) :
    Calls Tryz.prog 27 #[.pointer (some ⟨s, 0, none⟩), .agg #[.int .i64 k, .bool false, .int .i64 n, .string ⟨#[]⟩, .string ⟨#[]⟩, .slice none 0 0], .string ky] W (TellV W v) := by
  refine (propKeyAt W s g h k _ n _ _ _ hn ky).mono ?_
  rintro e w' ⟨r, c, rfl, hc, hp, hb⟩
  rw [hv r hp] at hc
  exact ⟨c, rfl, hc, hb⟩
/-- Prop of what has none. -/
def TellNull (W : World) (e : Ending) (w' : World) : Prop := ∃ p cap, e = .returned (.agg #[.int .i64 0, .bool false, .int .i64 0, .string ⟨#[]⟩, .string ⟨#[]⟩, .slice p 0 cap]) ∧ Below W.heap.size W w'
theorem askNull (W : World) (s : Nat) (g : GraphL) (h : StoreE W s g) (k n : Int) (hn : (Lit.int .i64 n).wf = true) (ky : ByteArray) (hv : ∀ r, PropIs g k n ky r → r = nullV) :
    Calls Tryz.prog 27 #[.pointer (some ⟨s, 0, none⟩), .agg #[.int .i64 k, .bool false, .int .i64 n, .string ⟨#[]⟩, .string ⟨#[]⟩, .slice none 0 0], .string ky] W (TellNull W) := by
  refine (askProp W s g h k n hn ky nullV hv).mono ?_
  rintro e w' ⟨c, rfl, hc, hb⟩
  obtain ⟨p, cap, rfl⟩ := val_null hc
  exact ⟨p, cap, rfl, hb⟩
theorem field60_0 (a b c d e f : Value) (w : World) : (Instr.field 60 (.agg #[a, b, c, d, e, f]) 0).run Tryz.prog w = .ok a w := by kernel_rfl
set_option maxHeartbeats 12800000 in
set_option maxRecDepth 100000 in
theorem propsLaw (g : GraphL) (vn ve : Value) (W : World) (hG : Gd W) (hn : SliceE nodeE W (Old W) vn g.nodes) (he : SliceE edgeE W (Old W) ve g.edges) (hn1 : g.nodes.length ≤ 2097152) (hn2 : g.edges.length ≤ 2097152) :
    Calls Tryz.prog 7 #[.agg #[vn, ve]] W fun e w' => e = .returned (.bool true) ∧ Below W.heap.size W w' := by
  have hn0 := hn
  have he0 := he
  obtain ⟨p1, cap1, rfl⟩ := hn0.slice
  obtain ⟨p2, cap2, rfl⟩ := he0.slice
  obtain ⟨n1, hl1⟩ : ∃ n, n = g.nodes.length := ⟨_, rfl⟩
  obtain ⟨n2, hl2⟩ : ∃ n, n = g.edges.length := ⟨_, rfl⟩
  have HLT := Lib.hid (fun W' (b : Below W.heap.size W W') => lightAt g _ _ W' (hn.stays (old_below b)) (he.stays (old_below b)) hn1 hn2)
  have HLD := Lib.hid (fun W' (b : Below W.heap.size W W') => loadAt g _ _ W' (hG.below b) (hn.stays (old_below b)) (he.stays (old_below b)) hn1 hn2)
  have HWK := Lib.hid (fun W' (b : Below W.heap.size W W') => wakesAt W' (hG.below b))
  rw [← hl1, ← hl2] at HLT HLD
  rw [← hl1] at hn hn1
  rw [← hl2] at he hn2
  rw [← hl1, ← hl2]
  have u1 : (W.alloc (.cells #[.slice p1 n1 cap1, .slice p2 n2 cap2] 25)).heap[W.heap.size]? = some (.cells #[.slice p1 n1 cap1, .slice p2 n2 cap2] 25 (0, 0)) := heap_new _ _ rfl
  have b0 := below1 W (.cells #[.slice p1 n1 cap1, .slice p2 n2 cap2] 25)
  obtain ⟨W0, hW0⟩ : ∃ W0, W0 = W.alloc (.cells #[.slice p1 n1 cap1, .slice p2 n2 cap2] 25) := ⟨_, rfl⟩
  rw [← hW0] at u1 b0
  have H0 := Lib.hid hW0
  have HN := Lib.hid hn
  have HE := Lib.hid he
  have HL := Lib.hid (And.intro hl1 hl2)
  clear hn he hn0 he0 hG hW0 hl1 hl2
  go_enter Tryz.func7, Tryz.ntmps7
  go_upto_region 1 with fail
  rw [← H0.out]
  go_upto_if 14 with (first
    | ((with_reducible refine wpList_loadRowE (.tmp 1) W.heap.size 25 25 [.slice p1 n1 cap1, .slice p2 n2 cap2] 2 _ u1 rfl Tryz.underlying25 rfl size25 ?_ ?_ ?_ ?_); rfl; rfl; rfl)
    | (go_at_call 8; (with_reducible refine (HLT.out _ b0).mono ?_); rintro e w1 ⟨b, rfl, hb1⟩; have b1 := below_any b0 hb1 b0.size; replace u1 := (hb1.block _ (lt_of_heap u1)).trans u1))
  cases b with
  | false =>
    clear u1
    go_wp2_with (first
      | (go_at_call 9; (with_reducible refine (HWK.out _ b1).mono ?_); rintro e w2 ⟨rfl, hb2⟩))
    go_ret
    exact ⟨rfl, below_any b1 hb2 b1.size⟩
  | true =>
    have HLD1 := Lib.hid (HLD.out w1 b1)
    by_cases hgp : graphP g = true
    · have hld : Calls Tryz.prog 11 #[.agg #[.slice p1 n1 cap1, .slice p2 n2 cap2]] w1 fun e w' => ∃ s, e = .returned (.tuple #[.pointer (some ⟨s, 0, none⟩), .int .i64 0]) ∧ StoreE w' s g ∧ Below w1.heap.size w1 w' := by
        refine HLD1.out.mono ?_
        rintro e w' ⟨hb, h⟩
        rw [if_pos hgp] at h
        obtain ⟨s, rfl, hs⟩ := h
        exact ⟨s, rfl, hs, hb⟩
      have HLD2 := Lib.hid hld
      have HGG := Lib.hid (goodG hgp)
      clear hld hgp hb1
      go_upto_block 0 with (first
        | ((with_reducible refine wpList_loadRowE (.tmp 1) W.heap.size 25 25 [.slice p1 n1 cap1, .slice p2 n2 cap2] 2 _ u1 rfl Tryz.underlying25 rfl size25 ?_ ?_ ?_ ?_); rfl; rfl; rfl)
        | (go_at_call 11; (with_reducible refine HLD2.out.mono ?_); rintro e w2 ⟨s, rfl, hst, hb2⟩; have b2 := below_any b1 hb2 b1.size; replace u1 := (hb2.block _ (lt_of_heap u1)).trans u1))
      have hrun : Run s W.heap.size (.slice p1 n1 cap1) (.slice p2 n2 cap2) g w2 := ⟨hst, u1, HN.out.stays (old_below b2), HE.out.stays (old_below b2)⟩
      have HRN := Lib.hid hrun
      have HB2 := Lib.hid b2
      clear hst u1 b2 hb2 hrun b1
      go_cut [5] (fun _ wx => Hid (Below w2.heap.size w2 wx))
      case first =>
        go_wp2_with fail
        go_loopg [5] n1 (fun gg s5 wr => ∃ i : Nat, i + gg = n1 ∧ s5 = .int .i64 i ∧ Hid (Below w2.heap.size w2 wr))
        case atStart => exact ⟨0, by omega, rfl, Lib.hid (Below.refl _ _)⟩
        case round =>
          obtain ⟨i, hig, rfl, HBR⟩ := hrel
          have hR := HRN.out.below HBR.out
          have c0 := cell_of hR.box 0 rfl
          by_cases hi : (i : Int) < n1
          · have hi1 : i < g.nodes.length := by have := HL.out.1; omega
            obtain ⟨g2, off, cap', c, e0, hg2, hrl, hra⟩ := hR.ns.at_ i hi1
            injection e0 with e1 e2 e3
            subst e1
            replace hra : wr.rangeAt g2 (off + i * 3) c := hra
            obtain ⟨a, ha⟩ : ∃ a, a = g.nodes[i] := ⟨_, rfl⟩
            rw [← ha] at hrl
            obtain ⟨lv, pv, rfl, hwf, hm1, hm2, hlv, hpv⟩ := hrl
            obtain ⟨pp, capp, rfl⟩ := hpv.slice
            obtain ⟨m, hm⟩ : ∃ m, m = a.props.length := ⟨_, rfl⟩
            obtain ⟨id, hid⟩ : ∃ id, id = a.id := ⟨_, rfl⟩
            rw [← hm] at hm2 hpv hra
            rw [← hid] at hra hwf
            have C0 : wr.cell? ⟨g2, off + i * 3, none⟩ = some (.int .i64 id) := by have := hra 0 _ rfl; simpa using this
            have C2 : wr.cell? ⟨g2, off + i * 3 + 2, none⟩ = some (.slice pp m capp) := hra 2 _ rfl
            have hmem : a ∈ g.nodes := by rw [ha]; exact List.getElem_mem hi1
            have HA := Lib.hid (And.intro hmem (And.intro hm hid))
            have HWF := Lib.hid hwf
            have HPV := Lib.hid hpv
            have HRR := Lib.hid hR
            have HC2 := Lib.hid C2
            obtain ⟨vb, hvb⟩ : ∃ vb, vb = wr.heap.size := ⟨_, rfl⟩
            clear hlv hpv hra e2 e3 ha hm hid hmem hm1 hwf hR C2
            go_upto_region 10 with (first
              | ((with_reducible refine wpList_storeE (.tmp 6) (.tmp 41) wr.heap.size 60 60 _ [.int .i64 6, .bool false, .int .i64 id, .string ⟨#[]⟩, .string ⟨#[]⟩, .slice none 0 0] 6 (heap_new _ _ rfl) rfl ?_ ?_ ?_ ?_ size_valE rfl (by simp [Value.oneCell']) ?_); rfl; rfl; rfl; rfl; intro wX oX hX))
            have bX : Below wr.heap.size wr wX := below_only (below1 wr _) oX (Nat.le_refl _) (by simp)
            rw [← hvb] at hX ⊢
            have HRX := Lib.hid (HRR.out.below bX)
            have HPX := Lib.hid (HPV.out.stays (old_below bX))
            have HCX := Lib.hid (cell_below HC2.out bX)
            have HVX := Lib.hid hX
            have HBX := Lib.hid (below_any HBR.out bX HBR.out.size)
            clear oX hX bX HRR HPV HC2 HBR C0 c0 hvb
            go_wp2_with fail
            go_loopg [7] m (fun gg s7 wr => ∃ k : Nat, k + gg = m ∧ s7 = .int .i64 k ∧ Hid (Below wX.heap.size wX wr))
            case atStart => exact ⟨0, by omega, rfl, Lib.hid (Below.refl _ _)⟩
            case round =>
              obtain ⟨k, hkg, rfl, HI⟩ := hrel
              have hR := HRX.out.below HI.out
              have c0 := cell_of hR.box 0 rfl
              have C2 := cell_below HCX.out HI.out
              have uv := (HI.out.block _ (lt_of_heap HVX.out)).trans HVX.out
              by_cases hk : (k : Int) < m
              · have hk1 : k < a.props.length := by have := HA.out.2.1; omega
                obtain ⟨gp, offp, capp', cc, e0, hgp, hrl, hra⟩ := (HPX.out.stays (old_below HI.out)).at_ k hk1
                injection e0 with e1 e2 e3
                subst e1
                replace hra : wr.rangeAt gp (offp + k * 7) cc := hra
                obtain ⟨x, hx⟩ : ∃ x, x = a.props[k] := ⟨_, rfl⟩
                rw [← hx] at hrl
                have hxm : x ∈ a.props := by rw [hx]; exact List.getElem_mem hk1
                have hask1 : ∀ W', StoreE W' s g → Calls Tryz.prog 27 #[.pointer (some ⟨s, 0, none⟩), .agg #[.int .i64 6, .bool false, .int .i64 id, .string ⟨#[]⟩, .string ⟨#[]⟩, .slice none 0 0], .string x.key] W' (TellV W' x.v) := fun W' h => askProp W' s g h 6 id HWF.out x.key x.v fun r hr => prop_node HGG.out HA.out.1 hxm (by rw [← HA.out.2.2]; exact hr)
                have hask2 : ∀ W', StoreE W' s g → Calls Tryz.prog 27 #[.pointer (some ⟨s, 0, none⟩), .agg #[.int .i64 2, .bool false, .int .i64 id, .string ⟨#[]⟩, .string ⟨#[]⟩, .slice none 0 0], .string x.key] W' (TellNull W') := fun W' h => askNull W' s g h 2 id HWF.out x.key fun r hr => prop_none hr
                obtain ⟨key, ⟨k1, b1, i1, t1, x1, q1⟩⟩ := x
                obtain ⟨c6, rfl, hks, hval⟩ := hrl
                have hvalr : valE.rel wr (Old wr) c6 (.mk k1 b1 i1 t1 x1 q1) := hval
                obtain ⟨L, rfl, hf, hq⟩ := hval
                obtain ⟨lp, lc, rfl⟩ := held_slice (HeldF.held q1 hq)
                have hval0 : valE.rel wr (Old wr) [.int .i64 k1, .bool b1, .int .i64 i1, .string t1, .string x1, .slice lp q1.length lc] (.mk k1 b1 i1 t1 x1 q1) := hvalr
                clear hvalr
                have HK1 := Lib.hid hask1
                have HK2 := Lib.hid hask2
                have HVAL := Lib.hid hval0
                have HRR := Lib.hid hR
                obtain ⟨xb, hxb⟩ : ∃ xb, xb = wr.heap.size := ⟨_, rfl⟩
                have HUV := Lib.hid uv
                clear hx hxm hask1 hask2 hks hf hq e2 e3 hval0 hR uv
                go_upto_region 14 with (first
                  | ((with_reducible refine wpList_loadE (.tmp 60) gp (offp + k * 7) 70 [.string key, .int .i64 k1, .bool b1, .int .i64 i1, .string t1, .string x1, .slice lp q1.length lc] 7 _ hra rfl Tryz.underlying70 rfl size_pairE ?_ ?_ ?_ ?_); rfl; rfl; rfl)
                  | ((with_reducible refine wpList_storeE (.tmp 8) (.tmp 61) wr.heap.size 70 70 _ [.string key, .int .i64 k1, .bool b1, .int .i64 i1, .string t1, .string x1, .slice lp q1.length lc] 7 (heap_new _ _ rfl) rfl ?_ ?_ ?_ ?_ size_pairE rfl (by simp [Value.oneCell']) ?_); rfl; rfl; rfl; rfl; intro wZ oZ hx))
                have bZ : Below wr.heap.size wr wZ := below_only (below1 wr _) oZ (Nat.le_refl _) (by simp)
                have hv := (bZ.block _ (lt_of_heap HUV.out)).trans HUV.out
                have hR := HRR.out.below bZ
                have hval := valE.stays (old_below bZ) HVAL.out
                have bI := below_any HI.out bZ HI.out.size
                rw [← hxb] at hx ⊢
                clear oZ HRR HVAL HUV hra c0 C2 bZ hxb
                refine wp_region_held_drew (S := fun W' => W'.heap[vb]? = some (.cells #[.int .i64 6, .bool false, .int .i64 id, .string ⟨#[]⟩, .string ⟨#[]⟩, .slice none 0 0] 60 (0, 0)) ∧ W'.heap[xb]? = some (.cells #[.string key, .int .i64 k1, .bool b1, .int .i64 i1, .string t1, .string x1, .slice lp q1.length lc] 70 (0, 0))) (by kernel_rfl) ⟨hv, hx⟩ (fun _ => ?_)
                replace hv : wZ.drew.heap[vb]? = _ := hv
                replace hx : wZ.drew.heap[xb]? = _ := hx
                replace hR := hR.below (Below.refl wZ.heap.size wZ).drew
                replace hval := valE.stays (old_below (Below.refl wZ.heap.size wZ).drew) hval
                replace bI := bI.drew
                generalize wZ.drew = wD at *
                refine wpAnyH_take (i := 0) (v := .pointer (some ⟨s, 0, none⟩)) rfl (by kernel_rfl) (by kernel_rfl) (by kernel_rfl) (fun _ _ _ h => h) (Or.inl ⟨by rfl, fun W _ => by go_simp⟩) (⟨hv, hx⟩) ?_
                try simp only [Act.put, List.getElem_toArray, List.getElem_cons_succ, List.getElem_cons_zero, List.setIfInBounds_toArray, List.set_cons_zero, List.set_cons_succ]
                refine wpAnyH_take (i := 1) (v := .agg #[.int .i64 6, .bool false, .int .i64 id, .string ⟨#[]⟩, .string ⟨#[]⟩, .slice none 0 0]) rfl (by kernel_rfl) (by kernel_rfl) (by kernel_rfl) (fun _ _ _ h => h) (yieldsIf_load_mid (by rfl) 60 (.tmp 6) rfl vb 0 rfl [.int .i64 6, .bool false, .int .i64 id, .string ⟨#[]⟩, .string ⟨#[]⟩, .slice none 0 0] _ (fun W' h => range_of_heap h.1 0 _ rfl) Tryz.underlying60 rfl size_valE) (⟨hv, hx⟩) ?_
                try simp only [Act.put, List.getElem_toArray, List.getElem_cons_succ, List.getElem_cons_zero, List.setIfInBounds_toArray, List.set_cons_zero, List.set_cons_succ]
                refine wpAnyH_take (i := 2) (v := .pointer (some ⟨xb, 0, none⟩)) rfl (by kernel_rfl) (by kernel_rfl) (by kernel_rfl) (fun _ _ _ h => h) (Or.inl ⟨by rfl, fun W _ => by go_simp⟩) (⟨hv, hx⟩) ?_
                try simp only [Act.put, List.getElem_toArray, List.getElem_cons_succ, List.getElem_cons_zero, List.setIfInBounds_toArray, List.set_cons_zero, List.set_cons_succ]
                refine wpAnyH_take (i := 5) (v := .pointer (some ⟨xb, 1, none⟩)) rfl (by kernel_rfl) (by kernel_rfl) (by kernel_rfl) (fun _ _ _ h => h) (Or.inl ⟨by rfl, fun W _ => by go_simp⟩) (⟨hv, hx⟩) ?_
                try simp only [Act.put, List.getElem_toArray, List.getElem_cons_succ, List.getElem_cons_zero, List.setIfInBounds_toArray, List.set_cons_zero, List.set_cons_succ]
                refine wpAnyH_take (i := 3) (v := .string key) rfl (by kernel_rfl) (by kernel_rfl) (by kernel_rfl) (fun _ _ _ h => h) (Or.inl ⟨by rfl, fun W' h => by have c0 := cell_of h.2 0 rfl; go_simp⟩) (⟨hv, hx⟩) ?_
                try simp only [Act.put, List.getElem_toArray, List.getElem_cons_succ, List.getElem_cons_zero, List.setIfInBounds_toArray, List.set_cons_zero, List.set_cons_succ]
                refine wpAnyH_take (i := 6) (v := .agg #[.int .i64 k1, .bool b1, .int .i64 i1, .string t1, .string x1, .slice lp q1.length lc]) rfl (by kernel_rfl) (by kernel_rfl) (by kernel_rfl) (fun _ _ _ h => h) (yieldsIf_load_mid (by rfl) 60 (.tmp 67) rfl xb 1 rfl [.int .i64 k1, .bool b1, .int .i64 i1, .string t1, .string x1, .slice lp q1.length lc] _ (fun W' h => range_of_heap h.2 1 _ rfl) Tryz.underlying60 rfl size_valE) (⟨hv, hx⟩) ?_
                try simp only [Act.put, List.getElem_toArray, List.getElem_cons_succ, List.getElem_cons_zero, List.setIfInBounds_toArray, List.set_cons_zero, List.set_cons_succ]
                refine wpAnyH_ready (rs := [4]) (by kernel_rfl) (by simp) ?_
                refine AllReadyH.cons rfl (fun K hK => ?_) AllReadyH.nil
                rw [if_pos (by rfl)]
                go_simp
                refine (HK1.out _ hR.st).mono ?_
                rintro e0 w3 ⟨c, rfl, hc, hb3⟩
                replace hv := (hb3.block _ (lt_of_heap hv)).trans hv
                replace hx := (hb3.block _ (lt_of_heap hx)).trans hx
                replace hR := hR.below hb3
                replace bI := below_any bI hb3 bI.size
                replace hval := valE.stays (old_below hb3) hval
                have HSM := Lib.hid (sameValAt _ _ c _ w3 _ _ hc hval)
                rw [sameP_self] at HSM
                clear hb3 hc
                refine hK.out _ _ (⟨hv, hx⟩) (fun _ => ?_)
                clear hK K
                try simp only [Act.put, List.getElem_toArray, List.getElem_cons_succ, List.getElem_cons_zero, List.setIfInBounds_toArray, List.set_cons_zero, List.set_cons_succ]
                refine wpAnyH_ready (rs := [7]) (by kernel_rfl) (by simp) ?_
                refine AllReadyH.cons rfl (fun K hK => ?_) AllReadyH.nil
                rw [if_pos (by rfl)]
                go_simp
                refine HSM.out.mono ?_
                rintro e0 w4 ⟨rfl, hb3⟩
                replace hv := (hb3.block _ (lt_of_heap hv)).trans hv
                replace hx := (hb3.block _ (lt_of_heap hx)).trans hx
                replace hR := hR.below hb3
                replace bI := below_any bI hb3 bI.size
                clear hb3
                refine hK.out _ _ (⟨hv, hx⟩) (fun _ => ?_)
                clear hK K
                try simp only [Act.put, List.getElem_toArray, List.getElem_cons_succ, List.getElem_cons_zero, List.setIfInBounds_toArray, List.set_cons_zero, List.set_cons_succ]
                refine wpAnyH_take (i := 8) (v := .bool false) rfl (by kernel_rfl) (by kernel_rfl) (by kernel_rfl) (fun _ _ _ h => h) (Or.inl ⟨by rfl, fun W _ => by go_simp⟩) (⟨hv, hx⟩) ?_
                try simp only [Act.put, List.getElem_toArray, List.getElem_cons_succ, List.getElem_cons_zero, List.setIfInBounds_toArray, List.set_cons_zero, List.set_cons_succ]
                refine wpAnyH_take (i := 9) (v := .bool false) rfl (by kernel_rfl) (by kernel_rfl) (by kernel_rfl) (fun _ _ _ h => h) (Or.inl ⟨by rfl, fun W _ => by go_simp⟩) (⟨hv, hx⟩) ?_
                try simp only [Act.put, List.getElem_toArray, List.getElem_cons_succ, List.getElem_cons_zero, List.setIfInBounds_toArray, List.set_cons_zero, List.set_cons_succ]
                refine wpAnyH_take (i := 10) (v := .pointer (some ⟨s, 0, none⟩)) rfl (by kernel_rfl) (by kernel_rfl) (by kernel_rfl) (fun _ _ _ h => h) (Or.inl ⟨by rfl, fun W _ => by go_simp⟩) (⟨hv, hx⟩) ?_
                try simp only [Act.put, List.getElem_toArray, List.getElem_cons_succ, List.getElem_cons_zero, List.setIfInBounds_toArray, List.set_cons_zero, List.set_cons_succ]
                refine wpAnyH_take (i := 11) (v := .pointer (some ⟨vb, 2, none⟩)) rfl (by kernel_rfl) (by kernel_rfl) (by kernel_rfl) (fun _ _ _ h => h) (Or.inl ⟨by rfl, fun W _ => by go_simp⟩) (⟨hv, hx⟩) ?_
                try simp only [Act.put, List.getElem_toArray, List.getElem_cons_succ, List.getElem_cons_zero, List.setIfInBounds_toArray, List.set_cons_zero, List.set_cons_succ]
                refine wpAnyH_take (i := 14) (v := .pointer (some ⟨xb, 0, none⟩)) rfl (by kernel_rfl) (by kernel_rfl) (by kernel_rfl) (fun _ _ _ h => h) (Or.inl ⟨by rfl, fun W _ => by go_simp⟩) (⟨hv, hx⟩) ?_
                try simp only [Act.put, List.getElem_toArray, List.getElem_cons_succ, List.getElem_cons_zero, List.setIfInBounds_toArray, List.set_cons_zero, List.set_cons_succ]
                refine wpAnyH_take (i := 12) (v := .int .i64 id) rfl (by kernel_rfl) (by kernel_rfl) (by kernel_rfl) (fun _ _ _ h => h) (Or.inl ⟨by rfl, fun W' h => by have c0 := cell_of h.1 2 rfl; go_simp⟩) (⟨hv, hx⟩) ?_
                try simp only [Act.put, List.getElem_toArray, List.getElem_cons_succ, List.getElem_cons_zero, List.setIfInBounds_toArray, List.set_cons_zero, List.set_cons_succ]
                refine wpAnyH_take (i := 15) (v := .string key) rfl (by kernel_rfl) (by kernel_rfl) (by kernel_rfl) (fun _ _ _ h => h) (Or.inl ⟨by rfl, fun W' h => by have c0 := cell_of h.2 0 rfl; go_simp⟩) (⟨hv, hx⟩) ?_
                try simp only [Act.put, List.getElem_toArray, List.getElem_cons_succ, List.getElem_cons_zero, List.setIfInBounds_toArray, List.set_cons_zero, List.set_cons_succ]
                refine wpAnyH_take (i := 13) (v := .agg #[.int .i64 2, .bool false, .int .i64 id, .string ⟨#[]⟩, .string ⟨#[]⟩, .slice none 0 0]) rfl (by kernel_rfl) (by kernel_rfl) (by kernel_rfl) (fun _ _ _ h => h) (Or.inl ⟨by rfl, fun W _ => by go_simp⟩) (⟨hv, hx⟩) ?_
                try simp only [Act.put, List.getElem_toArray, List.getElem_cons_succ, List.getElem_cons_zero, List.setIfInBounds_toArray, List.set_cons_zero, List.set_cons_succ]
                refine wpAnyH_ready (rs := [16]) (by kernel_rfl) (by simp) ?_
                refine AllReadyH.cons rfl (fun K hK => ?_) AllReadyH.nil
                rw [if_pos (by rfl)]
                go_simp
                refine (HK2.out _ hR.st).mono ?_
                rintro e0 w5 ⟨pz, cz, rfl, hb3⟩
                replace hv := (hb3.block _ (lt_of_heap hv)).trans hv
                replace hx := (hb3.block _ (lt_of_heap hx)).trans hx
                replace hR := hR.below hb3
                replace bI := below_any bI hb3 bI.size
                clear hb3
                refine hK.out _ _ (⟨hv, hx⟩) (fun _ => ?_)
                clear hK K
                try simp only [Act.put, List.getElem_toArray, List.getElem_cons_succ, List.getElem_cons_zero, List.setIfInBounds_toArray, List.set_cons_zero, List.set_cons_succ]
                refine wpAnyH_take (i := 17) (v := .int .i64 0) rfl (by kernel_rfl) (by kernel_rfl) (by kernel_rfl) (fun _ _ _ h => h) (Or.inl ⟨by rfl, fun W' _ => by have hf := field60_0 (.int .i64 0) (.bool false) (.int .i64 0) (.string ⟨#[]⟩) (.string ⟨#[]⟩) (.slice pz 0 cz) W'; go_simp⟩) (⟨hv, hx⟩) ?_
                try simp only [Act.put, List.getElem_toArray, List.getElem_cons_succ, List.getElem_cons_zero, List.setIfInBounds_toArray, List.set_cons_zero, List.set_cons_succ]
                refine wpAnyH_take (i := 18) (v := .bool false) rfl (by kernel_rfl) (by kernel_rfl) (by kernel_rfl) (fun _ _ _ h => h) (Or.inl ⟨by rfl, fun W _ => by go_simp⟩) (⟨hv, hx⟩) ?_
                try simp only [Act.put, List.getElem_toArray, List.getElem_cons_succ, List.getElem_cons_zero, List.setIfInBounds_toArray, List.set_cons_zero, List.set_cons_succ]
                refine wpAnyH_take (i := 19) (v := .bool false) rfl (by kernel_rfl) (by kernel_rfl) (by kernel_rfl) (fun _ _ _ h => h) (Or.inl ⟨by rfl, fun W _ => by go_simp⟩) (⟨hv, hx⟩) ?_
                try simp only [Act.put, List.getElem_toArray, List.getElem_cons_succ, List.getElem_cons_zero, List.setIfInBounds_toArray, List.set_cons_zero, List.set_cons_succ]
                refine wpAnyH_done (by kernel_rfl) ?_ _
                clear hR hv hx hval
                go_wp2_with fail
                go_roundg (gk - 1)
                case measure => omega
                case rel => exact ⟨k + 1, by omega, by go_num, Lib.hid bI⟩
              · have HUV := Lib.hid uv
                have HRR := Lib.hid hR
                have hask3 : ∀ W', StoreE W' s g → Calls Tryz.prog 27 #[.pointer (some ⟨s, 0, none⟩), .agg #[.int .i64 6, .bool false, .int .i64 id, .string ⟨#[]⟩, .string ⟨#[]⟩, .slice none 0 0], .string ⟨#[]⟩] W' (TellNull W') := fun W' h => askNull W' s g h 6 id HWF.out ⟨#[]⟩ fun r hr => prop_empty HGG.out HA.out.1 (by rw [← HA.out.2.2]; exact hr)
                have HK3 := Lib.hid (hask3 wr hR.st)
                have hf0 := field60_0 (.int .i64 0) (.bool false) (.int .i64 0) (.string ⟨#[]⟩) (.string ⟨#[]⟩)
                clear hask3 hR
                go_wp2_with (first
                  | ((with_reducible refine wpList_loadRowE (.tmp 6) vb 60 60 [.int .i64 6, .bool false, .int .i64 id, .string ⟨#[]⟩, .string ⟨#[]⟩, .slice none 0 0] 6 _ uv rfl Tryz.underlying60 rfl size_valE ?_ ?_ ?_ ?_); rfl; rfl; rfl)
                  | (go_at_call 27; (with_reducible refine HK3.out.mono ?_); rintro e w5 ⟨pz, cz, rfl, hb5⟩))
                go_roundg (n1 - (i + 1))
                case measure => omega
                case rel => exact ⟨i + 1, by omega, by go_num, Lib.hid (below_any HBX.out (below_any HI.out hb5 HI.out.size) HBX.out.size)⟩
          · go_wp2_with fail
            go_meet
            case rel => exact HBR
      case rest =>
        have HB0 := hcut
        clear hcut
        go_wp2_with fail
        go_loopg [9] n2 (fun gg s9 wr => ∃ i : Nat, i + gg = n2 ∧ s9 = .int .i64 i ∧ Hid (Below w2.heap.size w2 wr))
        case atStart => exact ⟨0, by omega, rfl, HB0⟩
        case round =>
          obtain ⟨i, hig, rfl, HBR⟩ := hrel
          have hR := HRN.out.below HBR.out
          have c1 := cell_of hR.box 1 rfl
          by_cases hi : (i : Int) < n2
          · have hi1 : i < g.edges.length := by have := HL.out.2; omega
            obtain ⟨g2, off, cap', c, e0, hg2, hrl, hra⟩ := hR.es.at_ i hi1
            injection e0 with e1 e2 e3
            subst e1
            replace hra : wr.rangeAt g2 (off + i * 5) c := hra
            obtain ⟨a, ha⟩ : ∃ a, a = g.edges[i] := ⟨_, rfl⟩
            rw [← ha] at hrl
            obtain ⟨pv, rfl, hwf, hm1, hm2, hpv⟩ := hrl
            obtain ⟨pp, capp, rfl⟩ := hpv.slice
            obtain ⟨m, hm⟩ : ∃ m, m = a.props.length := ⟨_, rfl⟩
            obtain ⟨id, hid⟩ : ∃ id, id = a.id := ⟨_, rfl⟩
            rw [← hm] at hm2 hpv hra
            rw [← hid] at hra hwf
            have C0 : wr.cell? ⟨g2, off + i * 5, none⟩ = some (.int .i64 id) := by have := hra 0 _ rfl; simpa using this
            have C4 : wr.cell? ⟨g2, off + i * 5 + 4, none⟩ = some (.slice pp m capp) := hra 4 _ rfl
            have hmem : a ∈ g.edges := by rw [ha]; exact List.getElem_mem hi1
            have HA := Lib.hid (And.intro hmem (And.intro hm hid))
            have HWF := Lib.hid hwf.1
            have HPV := Lib.hid hpv
            have HRR := Lib.hid hR
            have HC4 := Lib.hid C4
            obtain ⟨vb, hvb⟩ : ∃ vb, vb = wr.heap.size := ⟨_, rfl⟩
            clear hpv hra e2 e3 ha hm hid hmem hm1 hwf hR C4
            go_upto_region 22 with (first
              | ((with_reducible refine wpList_storeE (.tmp 10) (.tmp 100) wr.heap.size 60 60 _ [.int .i64 7, .bool false, .int .i64 id, .string ⟨#[]⟩, .string ⟨#[]⟩, .slice none 0 0] 6 (heap_new _ _ rfl) rfl ?_ ?_ ?_ ?_ size_valE rfl (by simp [Value.oneCell']) ?_); rfl; rfl; rfl; rfl; intro wX oX hX))
            have bX : Below wr.heap.size wr wX := below_only (below1 wr _) oX (Nat.le_refl _) (by simp)
            rw [← hvb] at hX ⊢
            have HRX := Lib.hid (HRR.out.below bX)
            have HPX := Lib.hid (HPV.out.stays (old_below bX))
            have HCX := Lib.hid (cell_below HC4.out bX)
            have HVX := Lib.hid hX
            have HBX := Lib.hid (below_any HBR.out bX HBR.out.size)
            clear oX hX bX HRR HPV HC4 HBR C0 c1 hvb
            go_wp2_with fail
            go_loopg [11] m (fun gg s11 wr => ∃ k : Nat, k + gg = m ∧ s11 = .int .i64 k ∧ Hid (Below wX.heap.size wX wr))
            case atStart => exact ⟨0, by omega, rfl, Lib.hid (Below.refl _ _)⟩
            case round =>
              obtain ⟨k, hkg, rfl, HI⟩ := hrel
              have hR := HRX.out.below HI.out
              have c1 := cell_of hR.box 1 rfl
              have C4 := cell_below HCX.out HI.out
              have uv := (HI.out.block _ (lt_of_heap HVX.out)).trans HVX.out
              by_cases hk : (k : Int) < m
              · have hk1 : k < a.props.length := by have := HA.out.2.1; omega
                obtain ⟨gp, offp, capp', cc, e0, hgp, hrl, hra⟩ := (HPX.out.stays (old_below HI.out)).at_ k hk1
                injection e0 with e1 e2 e3
                subst e1
                replace hra : wr.rangeAt gp (offp + k * 7) cc := hra
                obtain ⟨x, hx⟩ : ∃ x, x = a.props[k] := ⟨_, rfl⟩
                rw [← hx] at hrl
                have hxm : x ∈ a.props := by rw [hx]; exact List.getElem_mem hk1
                have hask1 : ∀ W', StoreE W' s g → Calls Tryz.prog 27 #[.pointer (some ⟨s, 0, none⟩), .agg #[.int .i64 7, .bool false, .int .i64 id, .string ⟨#[]⟩, .string ⟨#[]⟩, .slice none 0 0], .string x.key] W' (TellV W' x.v) := fun W' h => askProp W' s g h 7 id HWF.out x.key x.v fun r hr => prop_edge HGG.out HA.out.1 hxm (by rw [← HA.out.2.2]; exact hr)
                obtain ⟨key, ⟨k1, b1, i1, t1, x1, q1⟩⟩ := x
                obtain ⟨c6, rfl, hks, hval⟩ := hrl
                have hvalr : valE.rel wr (Old wr) c6 (.mk k1 b1 i1 t1 x1 q1) := hval
                obtain ⟨L, rfl, hf, hq⟩ := hval
                obtain ⟨lp, lc, rfl⟩ := held_slice (HeldF.held q1 hq)
                have hval0 : valE.rel wr (Old wr) [.int .i64 k1, .bool b1, .int .i64 i1, .string t1, .string x1, .slice lp q1.length lc] (.mk k1 b1 i1 t1 x1 q1) := hvalr
                clear hvalr
                have HK1 := Lib.hid hask1
                have hv := uv
                have hbx := hR.box
                have h4 : wr.cell? ⟨g2, off + i * 5 + 4, none⟩ = some (.slice (some ⟨gp, offp, none⟩) m capp) := C4
                clear hx hxm hask1 hks hf hq e2 e3 uv
                go_upto_region 25 with fail
                clear c1 C4
                refine wp_region_held_drew (S := fun W' => W'.heap[vb]? = some (.cells #[.int .i64 7, .bool false, .int .i64 id, .string ⟨#[]⟩, .string ⟨#[]⟩, .slice none 0 0] 60 (0, 0)) ∧ W'.heap[W.heap.size]? = some (.cells #[.slice p1 n1 cap1, .slice (some ⟨g2, off, none⟩) n2 cap2] 25 (0, 0)) ∧ W'.cell? ⟨g2, off + i * 5 + 4, none⟩ = some (.slice (some ⟨gp, offp, none⟩) m capp) ∧ W'.rangeAt gp (offp + k * 7) [.string key, .int .i64 k1, .bool b1, .int .i64 i1, .string t1, .string x1, .slice lp q1.length lc]) (by kernel_rfl) ⟨hv, hbx, h4, hra⟩ (fun _ => ?_)
                replace hv : wr.drew.heap[vb]? = _ := hv
                replace hbx : wr.drew.heap[W.heap.size]? = _ := hbx
                replace h4 : wr.drew.cell? ⟨g2, off + i * 5 + 4, none⟩ = _ := h4
                replace hra : wr.drew.rangeAt gp (offp + k * 7) _ := hra
                replace hR := hR.below (Below.refl wr.heap.size wr).drew
                replace hval0 := valE.stays (old_below (Below.refl wr.heap.size wr).drew) hval0
                have bI := HI.out.drew
                generalize wr.drew = wD at *
                refine wpAnyH_take (i := 0) (v := .pointer (some ⟨s, 0, none⟩)) rfl (by kernel_rfl) (by kernel_rfl) (by kernel_rfl) (fun _ _ _ h => h) (Or.inl ⟨by rfl, fun W _ => by go_simp⟩) (⟨hv, hbx, h4, hra⟩) ?_
                try simp only [Act.put, List.getElem_toArray, List.getElem_cons_succ, List.getElem_cons_zero, List.setIfInBounds_toArray, List.set_cons_zero, List.set_cons_succ]
                refine wpAnyH_take (i := 1) (v := .agg #[.int .i64 7, .bool false, .int .i64 id, .string ⟨#[]⟩, .string ⟨#[]⟩, .slice none 0 0]) rfl (by kernel_rfl) (by kernel_rfl) (by kernel_rfl) (fun _ _ _ h => h) (yieldsIf_load_mid (by rfl) 60 (.tmp 10) rfl vb 0 rfl [.int .i64 7, .bool false, .int .i64 id, .string ⟨#[]⟩, .string ⟨#[]⟩, .slice none 0 0] _ (fun W' h => range_of_heap h.1 0 _ rfl) Tryz.underlying60 rfl size_valE) (⟨hv, hbx, h4, hra⟩) ?_
                try simp only [Act.put, List.getElem_toArray, List.getElem_cons_succ, List.getElem_cons_zero, List.setIfInBounds_toArray, List.set_cons_zero, List.set_cons_succ]
                refine wpAnyH_take (i := 2) (v := .pointer (some ⟨W.heap.size, 1, none⟩)) rfl (by kernel_rfl) (by kernel_rfl) (by kernel_rfl) (fun _ _ _ h => h) (Or.inl ⟨by rfl, fun W _ => by go_simp⟩) (⟨hv, hbx, h4, hra⟩) ?_
                try simp only [Act.put, List.getElem_toArray, List.getElem_cons_succ, List.getElem_cons_zero, List.setIfInBounds_toArray, List.set_cons_zero, List.set_cons_succ]
                refine wpAnyH_take (i := 4) (v := .int .i64 (i : Int)) rfl (by kernel_rfl) (by kernel_rfl) (by kernel_rfl) (fun _ _ _ h => h) (Or.inl ⟨by rfl, fun W _ => by go_simp⟩) (⟨hv, hbx, h4, hra⟩) ?_
                try simp only [Act.put, List.getElem_toArray, List.getElem_cons_succ, List.getElem_cons_zero, List.setIfInBounds_toArray, List.set_cons_zero, List.set_cons_succ]
                refine wpAnyH_take (i := 8) (v := .int .i64 (k : Int)) rfl (by kernel_rfl) (by kernel_rfl) (by kernel_rfl) (fun _ _ _ h => h) (Or.inl ⟨by rfl, fun W _ => by go_simp⟩) (⟨hv, hbx, h4, hra⟩) ?_
                try simp only [Act.put, List.getElem_toArray, List.getElem_cons_succ, List.getElem_cons_zero, List.setIfInBounds_toArray, List.set_cons_zero, List.set_cons_succ]
                refine wpAnyH_take (i := 13) (v := .pointer (some ⟨W.heap.size, 1, none⟩)) rfl (by kernel_rfl) (by kernel_rfl) (by kernel_rfl) (fun _ _ _ h => h) (Or.inl ⟨by rfl, fun W _ => by go_simp⟩) (⟨hv, hbx, h4, hra⟩) ?_
                try simp only [Act.put, List.getElem_toArray, List.getElem_cons_succ, List.getElem_cons_zero, List.setIfInBounds_toArray, List.set_cons_zero, List.set_cons_succ]
                refine wpAnyH_take (i := 15) (v := .int .i64 (i : Int)) rfl (by kernel_rfl) (by kernel_rfl) (by kernel_rfl) (fun _ _ _ h => h) (Or.inl ⟨by rfl, fun W _ => by go_simp⟩) (⟨hv, hbx, h4, hra⟩) ?_
                try simp only [Act.put, List.getElem_toArray, List.getElem_cons_succ, List.getElem_cons_zero, List.setIfInBounds_toArray, List.set_cons_zero, List.set_cons_succ]
                refine wpAnyH_take (i := 19) (v := .int .i64 (k : Int)) rfl (by kernel_rfl) (by kernel_rfl) (by kernel_rfl) (fun _ _ _ h => h) (Or.inl ⟨by rfl, fun W _ => by go_simp⟩) (⟨hv, hbx, h4, hra⟩) ?_
                try simp only [Act.put, List.getElem_toArray, List.getElem_cons_succ, List.getElem_cons_zero, List.setIfInBounds_toArray, List.set_cons_zero, List.set_cons_succ]
                refine wpAnyH_take (i := 3) (v := .slice (some ⟨g2, off, none⟩) n2 cap2) rfl (by kernel_rfl) (by kernel_rfl) (by kernel_rfl) (fun _ _ _ h => h) (Or.inl ⟨by rfl, fun W' h => by have c0 := cell_of h.2.1 1 rfl; go_simp⟩) (⟨hv, hbx, h4, hra⟩) ?_
                try simp only [Act.put, List.getElem_toArray, List.getElem_cons_succ, List.getElem_cons_zero, List.setIfInBounds_toArray, List.set_cons_zero, List.set_cons_succ]
                refine wpAnyH_take (i := 14) (v := .slice (some ⟨g2, off, none⟩) n2 cap2) rfl (by kernel_rfl) (by kernel_rfl) (by kernel_rfl) (fun _ _ _ h => h) (Or.inl ⟨by rfl, fun W' h => by have c0 := cell_of h.2.1 1 rfl; go_simp⟩) (⟨hv, hbx, h4, hra⟩) ?_
                try simp only [Act.put, List.getElem_toArray, List.getElem_cons_succ, List.getElem_cons_zero, List.setIfInBounds_toArray, List.set_cons_zero, List.set_cons_succ]
                refine wpAnyH_take (i := 5) (v := .pointer (some ⟨g2, off + i * 5, none⟩)) rfl (by kernel_rfl) (by kernel_rfl) (by kernel_rfl) (fun _ _ _ h => h) (Or.inl ⟨by rfl, fun W' _ => by go_simp⟩) (⟨hv, hbx, h4, hra⟩) ?_
                try simp only [Act.put, List.getElem_toArray, List.getElem_cons_succ, List.getElem_cons_zero, List.setIfInBounds_toArray, List.set_cons_zero, List.set_cons_succ]
                refine wpAnyH_take (i := 16) (v := .pointer (some ⟨g2, off + i * 5, none⟩)) rfl (by kernel_rfl) (by kernel_rfl) (by kernel_rfl) (fun _ _ _ h => h) (Or.inl ⟨by rfl, fun W' _ => by go_simp⟩) (⟨hv, hbx, h4, hra⟩) ?_
                try simp only [Act.put, List.getElem_toArray, List.getElem_cons_succ, List.getElem_cons_zero, List.setIfInBounds_toArray, List.set_cons_zero, List.set_cons_succ]
                refine wpAnyH_take (i := 6) (v := .pointer (some ⟨g2, off + i * 5 + 4, none⟩)) rfl (by kernel_rfl) (by kernel_rfl) (by kernel_rfl) (fun _ _ _ h => h) (Or.inl ⟨by rfl, fun W _ => by go_simp⟩) (⟨hv, hbx, h4, hra⟩) ?_
                try simp only [Act.put, List.getElem_toArray, List.getElem_cons_succ, List.getElem_cons_zero, List.setIfInBounds_toArray, List.set_cons_zero, List.set_cons_succ]
                refine wpAnyH_take (i := 17) (v := .pointer (some ⟨g2, off + i * 5 + 4, none⟩)) rfl (by kernel_rfl) (by kernel_rfl) (by kernel_rfl) (fun _ _ _ h => h) (Or.inl ⟨by rfl, fun W _ => by go_simp⟩) (⟨hv, hbx, h4, hra⟩) ?_
                try simp only [Act.put, List.getElem_toArray, List.getElem_cons_succ, List.getElem_cons_zero, List.setIfInBounds_toArray, List.set_cons_zero, List.set_cons_succ]
                refine wpAnyH_take (i := 7) (v := .slice (some ⟨gp, offp, none⟩) m capp) rfl (by kernel_rfl) (by kernel_rfl) (by kernel_rfl) (fun _ _ _ h => h) (Or.inl ⟨by rfl, fun W' h => by have c0 := h.2.2.1; go_simp⟩) (⟨hv, hbx, h4, hra⟩) ?_
                try simp only [Act.put, List.getElem_toArray, List.getElem_cons_succ, List.getElem_cons_zero, List.setIfInBounds_toArray, List.set_cons_zero, List.set_cons_succ]
                refine wpAnyH_take (i := 18) (v := .slice (some ⟨gp, offp, none⟩) m capp) rfl (by kernel_rfl) (by kernel_rfl) (by kernel_rfl) (fun _ _ _ h => h) (Or.inl ⟨by rfl, fun W' h => by have c0 := h.2.2.1; go_simp⟩) (⟨hv, hbx, h4, hra⟩) ?_
                try simp only [Act.put, List.getElem_toArray, List.getElem_cons_succ, List.getElem_cons_zero, List.setIfInBounds_toArray, List.set_cons_zero, List.set_cons_succ]
                refine wpAnyH_take (i := 9) (v := .pointer (some ⟨gp, offp + k * 7, none⟩)) rfl (by kernel_rfl) (by kernel_rfl) (by kernel_rfl) (fun _ _ _ h => h) (Or.inl ⟨by rfl, fun W' _ => by go_simp⟩) (⟨hv, hbx, h4, hra⟩) ?_
                try simp only [Act.put, List.getElem_toArray, List.getElem_cons_succ, List.getElem_cons_zero, List.setIfInBounds_toArray, List.set_cons_zero, List.set_cons_succ]
                refine wpAnyH_take (i := 20) (v := .pointer (some ⟨gp, offp + k * 7, none⟩)) rfl (by kernel_rfl) (by kernel_rfl) (by kernel_rfl) (fun _ _ _ h => h) (Or.inl ⟨by rfl, fun W' _ => by go_simp⟩) (⟨hv, hbx, h4, hra⟩) ?_
                try simp only [Act.put, List.getElem_toArray, List.getElem_cons_succ, List.getElem_cons_zero, List.setIfInBounds_toArray, List.set_cons_zero, List.set_cons_succ]
                refine wpAnyH_take (i := 10) (v := .pointer (some ⟨gp, offp + k * 7, none⟩)) rfl (by kernel_rfl) (by kernel_rfl) (by kernel_rfl) (fun _ _ _ h => h) (Or.inl ⟨by rfl, fun W _ => by go_simp⟩) (⟨hv, hbx, h4, hra⟩) ?_
                try simp only [Act.put, List.getElem_toArray, List.getElem_cons_succ, List.getElem_cons_zero, List.setIfInBounds_toArray, List.set_cons_zero, List.set_cons_succ]
                refine wpAnyH_take (i := 21) (v := .pointer (some ⟨gp, offp + k * 7 + 1, none⟩)) rfl (by kernel_rfl) (by kernel_rfl) (by kernel_rfl) (fun _ _ _ h => h) (Or.inl ⟨by rfl, fun W _ => by go_simp⟩) (⟨hv, hbx, h4, hra⟩) ?_
                try simp only [Act.put, List.getElem_toArray, List.getElem_cons_succ, List.getElem_cons_zero, List.setIfInBounds_toArray, List.set_cons_zero, List.set_cons_succ]
                refine wpAnyH_take (i := 11) (v := .string key) rfl (by kernel_rfl) (by kernel_rfl) (by kernel_rfl) (fun _ _ _ h => h) (Or.inl ⟨by rfl, fun W' h => by have c0 : W'.cell? ⟨gp, offp + k * 7, none⟩ = some (.string key) := (by have q := h.2.2.2 0 _ rfl; simpa using q); go_simp⟩) (⟨hv, hbx, h4, hra⟩) ?_
                try simp only [Act.put, List.getElem_toArray, List.getElem_cons_succ, List.getElem_cons_zero, List.setIfInBounds_toArray, List.set_cons_zero, List.set_cons_succ]
                refine wpAnyH_take (i := 22) (v := .agg #[.int .i64 k1, .bool b1, .int .i64 i1, .string t1, .string x1, .slice lp q1.length lc]) rfl (by kernel_rfl) (by kernel_rfl) (by kernel_rfl) (fun _ _ _ h => h) (yieldsIf_load_mid (by rfl) 60 (.tmp 133) rfl gp (offp + k * 7 + 1) rfl [.int .i64 k1, .bool b1, .int .i64 i1, .string t1, .string x1, .slice lp q1.length lc] _ (fun W' h => range_tail h.2.2.2) Tryz.underlying60 rfl size_valE) (⟨hv, hbx, h4, hra⟩) ?_
                try simp only [Act.put, List.getElem_toArray, List.getElem_cons_succ, List.getElem_cons_zero, List.setIfInBounds_toArray, List.set_cons_zero, List.set_cons_succ]
                refine wpAnyH_ready (rs := [12]) (by kernel_rfl) (by simp) ?_
                refine AllReadyH.cons rfl (fun K hK => ?_) AllReadyH.nil
                rw [if_pos (by rfl)]
                go_simp
                refine (HK1.out _ hR.st).mono ?_
                rintro e0 w3 ⟨c, rfl, hc, hb3⟩
                replace hv := (hb3.block _ (lt_of_heap hv)).trans hv
                replace hbx := (hb3.block _ (lt_of_heap hbx)).trans hbx
                replace h4 := cell_below h4 hb3
                replace hra := range_keep hra hb3
                replace hR := hR.below hb3
                replace bI := below_any bI hb3 bI.size
                replace hval0 := valE.stays (old_below hb3) hval0
                have HSM := Lib.hid (sameValAt _ _ c _ w3 _ _ hc hval0)
                rw [sameP_self] at HSM
                clear hb3 hc
                refine hK.out _ _ (⟨hv, hbx, h4, hra⟩) (fun _ => ?_)
                clear hK K
                try simp only [Act.put, List.getElem_toArray, List.getElem_cons_succ, List.getElem_cons_zero, List.setIfInBounds_toArray, List.set_cons_zero, List.set_cons_succ]
                refine wpAnyH_ready (rs := [23]) (by kernel_rfl) (by simp) ?_
                refine AllReadyH.cons rfl (fun K hK => ?_) AllReadyH.nil
                rw [if_pos (by rfl)]
                go_simp
                refine HSM.out.mono ?_
                rintro e0 w4 ⟨rfl, hb3⟩
                replace hv := (hb3.block _ (lt_of_heap hv)).trans hv
                replace hbx := (hb3.block _ (lt_of_heap hbx)).trans hbx
                replace h4 := cell_below h4 hb3
                replace hra := range_keep hra hb3
                replace hR := hR.below hb3
                replace bI := below_any bI hb3 bI.size
                clear hb3
                refine hK.out _ _ (⟨hv, hbx, h4, hra⟩) (fun _ => ?_)
                clear hK K
                try simp only [Act.put, List.getElem_toArray, List.getElem_cons_succ, List.getElem_cons_zero, List.setIfInBounds_toArray, List.set_cons_zero, List.set_cons_succ]
                refine wpAnyH_take (i := 24) (v := .bool false) rfl (by kernel_rfl) (by kernel_rfl) (by kernel_rfl) (fun _ _ _ h => h) (Or.inl ⟨by rfl, fun W _ => by go_simp⟩) (⟨hv, hbx, h4, hra⟩) ?_
                try simp only [Act.put, List.getElem_toArray, List.getElem_cons_succ, List.getElem_cons_zero, List.setIfInBounds_toArray, List.set_cons_zero, List.set_cons_succ]
                refine wpAnyH_done (by kernel_rfl) ?_ _
                clear hR hv hbx h4 hra hval0
                go_wp2_with fail
                go_roundg (gk - 1)
                case measure => omega
                case rel => exact ⟨k + 1, by omega, by go_num, Lib.hid bI⟩
              · go_wp2_with fail
                go_roundg (n2 - (i + 1))
                case measure => omega
                case rel => exact ⟨i + 1, by omega, by go_num, Lib.hid (below_any HBX.out HI.out HBX.out.size)⟩
          · have HBZ := Lib.hid (below_any HB2.out HBR.out HB2.out.size)
            go_wp2_with (first
              | (go_at_call 9; (with_reducible refine (HWK.out _ HBZ.out).mono ?_); rintro e w7 ⟨rfl, hb7⟩))
            go_ret
            exact ⟨rfl, below_any HBZ.out hb7 HBZ.out.size⟩
    · have hld : Calls Tryz.prog 11 #[.agg #[.slice p1 n1 cap1, .slice p2 n2 cap2]] w1 fun e w' => e = .returned (.tuple #[.pointer none, .int .i64 21]) ∧ Below w1.heap.size w1 w' := by
        refine HLD1.out.mono ?_
        rintro e w' ⟨hb, h⟩
        rw [if_neg hgp] at h
        exact ⟨h, hb⟩
      have HLD2 := Lib.hid hld
      clear hld hgp hb1
      go_wp2_with (first
        | ((with_reducible refine wpList_loadRowE (.tmp 1) W.heap.size 25 25 [.slice p1 n1 cap1, .slice p2 n2 cap2] 2 _ u1 rfl Tryz.underlying25 rfl size25 ?_ ?_ ?_ ?_); rfl; rfl; rfl)
        | (go_at_call 11; (with_reducible refine HLD2.out.mono ?_); rintro e w2 ⟨rfl, hb2⟩; have b2 := below_any b1 hb2 b1.size)
        | (go_at_call 9; (with_reducible refine (HWK.out _ b2).mono ?_); rintro e w3 ⟨rfl, hb3⟩))
      go_ret
      exact ⟨rfl, below_any b2 hb3 b2.size⟩
end Go.Proofs.YtcfmenkigolnoaaGreatDoor
