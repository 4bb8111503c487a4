/- Texts of one kind, one behind the other: each says ahead of itself what it shows. -/
import Derived.Test.YtcfmenkigolnoaaGreatDoorTan
/- takeEdges: edges by their numbers, their numbers rising, the numbers of those that leave, reach or touch each node. -/
namespace Go.Proofs.YtcfmenkigolnoaaGreatDoor
open Go.RowKit

theorem own_ptr {w : World} {base n size : Nat} {e : TypeId} {v : Value} {xs : List Value} (h : w.ownsRow base e size v n xs) (hn : 0 < n) : ∃ g cap, v = .slice (some ⟨g, 0, none⟩) n cap := by
  rcases h.2 with h | ⟨g, cap, _, e, _⟩
  · omega
  · exact ⟨g, cap, e⟩
theorem cell_keep {w w' : World} {r : Option Nat} {p : Addr} {u : Value} (h : w.cell? p = some u) (g : w.grownBy w' r) (hr : r ≠ some p.block) : w'.cell? p = some u := by
  have hb : p.block < w.heap.size := by
    by_cases q : p.block < w.heap.size
    · exact q
    · unfold World.cell? at h
      rw [Array.getElem?_eq_none (by omega)] at h
      cases h
  unfold World.cell? at h ⊢
  rw [g.block p.block hb (fun e => hr e.symm)]
  exact h
theorem add_block (a : Addr) (n : Nat) : (a.add n).block = a.block := by unfold Addr.add; split <;> rfl
theorem wp_entry_store {P : Program} {o : Oper} {a : Act} {w w' : World} {K : Act → World → Prop} {Q : Exit → Act → World → Prop} (m s x : Operand) (t : TypeId) (ho : o.op = Op.entryStore t m s x) {vm vs vx : Value} (hm : a.eval m = vm) (hs : a.eval s = vs) (hx : a.eval x = vx) (hr : (Instr.entryStore t vm vs vx).run P w = .ok () w') (h : K (a.put o.dst undef) w') : o.wp P a w K Q := by
  unfold Oper.wp
  simp [execOp, ho, hm, hs, hx, hr, Result.andThen]
  exact h
set_option maxHeartbeats 6400000 in
set_option maxRecDepth 20000 in
theorem takeEdgesAt (B s mb lb : Nat) (sc : Array Value) (l : List EdgeL) (v : Value) (w : World) (hs : w.heap[s]? = some (.cells sc 79 (0, 0))) (h0 : sc[1]? = some (.map (some mb))) (h2 : sc[3]? = some (.slice none 0 0)) (h4 : sc[5]? = some (.map (some lb))) (hm : w.heap[mb]? = some (.map #[] 0)) (hlb : w.heap[lb]? = some (.map #[] 0)) (hlm : lb ≠ mb) (hB : B ≤ mb) (hl : SliceE edgeE w (fun g => g < B) v l) (hnd : (l.map EdgeL.id).Nodup) (hn : l.length ≤ 65536) :
    Calls Tryz.prog 38 #[.pointer (some ⟨s, 0, none⟩), v] w (EPost w s mb lb sc l) := by
  obtain ⟨n, hln⟩ : ∃ n, n = l.length := ⟨_, rfl⟩
  obtain ⟨p, cap, rfl⟩ := hl.slice
  rw [← hln] at hn
  have hsb : s ≠ mb := fun e => by subst e; rw [hs] at hm; cases hm
  have HL := Lib.hid hln
  have HH := Lib.hid hl
  have HD := Lib.hid hnd
  have hls : lb ≠ s := fun e => by subst e; rw [hs] at hlb; cases hlb
  have hlbl := lt_of_heap hlb
  have HLB := Lib.hid hlb
  clear hlb
  have HM := Lib.hid hm
  have hmb := lt_of_heap hm
  have hsl := lt_of_heap hs
  have HB : Hid (B ≤ mb ∧ B ≤ w.heap.size) := Lib.hid ⟨hB, by omega⟩
  rw [← hln]
  clear hln hl hnd hm hB
  go_enter Tryz.func38, Tryz.ntmps38
  go_upto_block 0 with fail
  go_cut [13] (fun s13 wx => Hid (T1 edgeE EdgeL.id PlainE mb w l wx))
  case first =>
    go_wp2_with fail
    go_loopg [13] n (fun gg s13 wr => ∃ j : Nat, j + gg = n ∧ s13 = .int .i64 j ∧ Hid (T1 edgeE EdgeL.id PlainE mb w (l.take j) wr))
    case atStart => exact ⟨0, by omega, rfl, Lib.hid ⟨AllIn.start HM.out, Kept.refl _ _⟩⟩
    case round =>
      obtain ⟨j, hjg, rfl, HA⟩ := hrel
      by_cases hlt : (j : Int) < n
      · have hj1 : j < l.length := by have := HL.out; omega
        have hbel := HA.out.kept
        have st : Stays (fun g => g < B) (fun g => g < B) w wr := fun g hg => ⟨hg, hbel.block g (by have := HB.out.2; omega) (fun (e : g = mb) => by have := HB.out.1; omega)⟩
        obtain ⟨g, off, cap', c, e0, hg, hrl, hra⟩ := (HH.out.stays st).at_ j hj1
        injection e0 with e1 e2 e3
        subst e1
        replace hra : wr.rangeAt g (off + j * 5) c := hra
        have hlen : c.length = 5 := edgeE.len hrl
        have hone := edgeE.one hrl
        have etk : l.take (j + 1) = l.take j ++ [l[j]] := List.take_succ_eq_append_getElem hj1
        have hnew : ∀ x ∈ l.take j, EdgeL.id x ≠ EdgeL.id l[j] := new_of_nodup HD.out hj1
        have HR := Lib.hid (And.intro hrl hra)
        clear e2 e3
        go_upto_region 3 with (first
          | ((with_reducible refine wpList_loadE (.tmp 15) g (off + j * 5) 41 c 5 _ HR.out.2 hlen Tryz.underlying41 rfl size_edgeE ?_ ?_ ?_ ?_); rfl; rfl; rfl)
          | ((with_reducible refine wpList_storeE (.tmp 5) (.tmp 16) wr.heap.size 41 41 _ c 5 (heap_new _ _ rfl) hlen ?_ ?_ ?_ ?_ size_edgeE rfl hone ?_); rfl; rfl; rfl; rfl; intro wX oX u5))
        have bX : Below wr.heap.size wr wX := below_only (below1 wr _) oX (Nat.le_refl _) (by simp)
        have bX2 := bX.drew
        have us : wX.heap[s]? = some (.cells sc 79 (0, 0)) := (bX.block s (Nat.lt_of_lt_of_le hsl hbel.size)).trans ((hbel.block s hsl hsb).trans hs)
        have HC : Hid (∀ W, Below wr.heap.size wr W → Calls Tryz.prog 81 #[.agg c.toArray] W fun e w' => ∃ a', PlainE l[j] a' ∧ ∃ c', e = .returned (.agg c'.toArray) ∧ edgeE.rel w' (New W w') c' a' ∧ Below W.heap.size W w') :=
          Lib.hid fun W hb => plainEdgeAt l[j] W c (edgeE.stays (fun i hi => ⟨Nat.lt_of_lt_of_le (by have := HB.out.2; have := hbel.size; omega) hb.size, hb.block i (by have := HB.out.2; have := hbel.size; omega)⟩) hrl)
        obtain ⟨nn, ff, hnn, hmap, h3, h4⟩ := HA.out.all
        have hnl : nn ≤ j := by
          have := List.length_take_le j l
          omega
        have hnb : wr.heap.size ≠ mb := fun e => by have := hmap.lt; omega
        have HK := Lib.hid (And.intro hbel (And.intro hnn (And.intro h3 (And.intro h4 hnew))))
        obtain ⟨pv, rfl, hwf, _, _, _⟩ := hrl
        have HID := Lib.hid hwf
        clear hnn h3 h4 hnew HR oX bX hra HA hone
        refine wp_region_held_drew (S := fun W => W.heap[s]? = some (.cells sc 79 (0, 0)) ∧ W.heap[wr.heap.size]? = some (.cells #[.int .i64 l[j].id, .int .i64 l[j].src, .int .i64 l[j].dst, .string l[j].type, pv] 41 (0, 0))) (by kernel_rfl) ⟨us, u5⟩ (fun _ => ?_)
        replace us : wX.drew.heap[s]? = _ := us
        replace u5 : wX.drew.heap[wr.heap.size]? = _ := u5
        refine wpAnyH_take (i := 0) (v := .pointer (some ⟨s, 0, none⟩)) rfl (by kernel_rfl) (by kernel_rfl) (by kernel_rfl) (fun _ _ _ h => h) (Or.inl ⟨by rfl, fun W _ => by go_simp⟩) (⟨us, u5⟩) ?_
        try simp only [Act.put, List.getElem_toArray, List.getElem_cons_succ, List.getElem_cons_zero, List.setIfInBounds_toArray, List.set_cons_zero, List.set_cons_succ]
        refine wpAnyH_take (i := 4) (v := .pointer (some ⟨wr.heap.size, 0, none⟩)) rfl (by kernel_rfl) (by kernel_rfl) (by kernel_rfl) (fun _ _ _ h => h) (Or.inl ⟨by rfl, fun W _ => by go_simp⟩) (⟨us, u5⟩) ?_
        try simp only [Act.put, List.getElem_toArray, List.getElem_cons_succ, List.getElem_cons_zero, List.setIfInBounds_toArray, List.set_cons_zero, List.set_cons_succ]
        refine wpAnyH_take (i := 6) (v := .agg #[.int .i64 l[j].id, .int .i64 l[j].src, .int .i64 l[j].dst, .string l[j].type, pv]) rfl (by kernel_rfl) (by kernel_rfl) (by kernel_rfl) (fun _ _ _ h => h) (yieldsIf_load_mid (by rfl) 41 (.tmp 5) rfl wr.heap.size 0 rfl [.int .i64 l[j].id, .int .i64 l[j].src, .int .i64 l[j].dst, .string l[j].type, pv] _ (fun W h => range_of_heap h.2 0 _ rfl) Tryz.underlying41 rfl size_edgeE) (⟨us, u5⟩) ?_
        try simp only [Act.put, List.getElem_toArray, List.getElem_cons_succ, List.getElem_cons_zero, List.setIfInBounds_toArray, List.set_cons_zero, List.set_cons_succ]
        refine wpAnyH_take (i := 1) (v := .pointer (some ⟨s, 0, none⟩)) rfl (by kernel_rfl) (by kernel_rfl) (by kernel_rfl) (fun _ _ _ h => h) (Or.inl ⟨by rfl, fun W _ => by go_simp⟩) (⟨us, u5⟩) ?_
        try simp only [Act.put, List.getElem_toArray, List.getElem_cons_succ, List.getElem_cons_zero, List.setIfInBounds_toArray, List.set_cons_zero, List.set_cons_succ]
        refine wpAnyH_take (i := 5) (v := .int .i64 l[j].id) rfl (by kernel_rfl) (by kernel_rfl) (by kernel_rfl) (fun _ _ _ h => h) (Or.inl ⟨by rfl, fun W h => by have c0 := cell_of h.2 0 rfl; go_simp⟩) (⟨us, u5⟩) ?_
        try simp only [Act.put, List.getElem_toArray, List.getElem_cons_succ, List.getElem_cons_zero, List.setIfInBounds_toArray, List.set_cons_zero, List.set_cons_succ]
        refine wpAnyH_take (i := 2) (v := .pointer (some ⟨s, 1, none⟩)) rfl (by kernel_rfl) (by kernel_rfl) (by kernel_rfl) (fun _ _ _ h => h) (Or.inl ⟨by rfl, fun W _ => by go_simp⟩) (⟨us, u5⟩) ?_
        try simp only [Act.put, List.getElem_toArray, List.getElem_cons_succ, List.getElem_cons_zero, List.setIfInBounds_toArray, List.set_cons_zero, List.set_cons_succ]
        refine wpAnyH_take (i := 3) (v := .map (some mb)) rfl (by kernel_rfl) (by kernel_rfl) (by kernel_rfl) (fun _ _ _ h => h) (Or.inl ⟨by rfl, fun W h => by have c0 := cell_of h.1 1 h0; go_simp⟩) (⟨us, u5⟩) ?_
        try simp only [Act.put, List.getElem_toArray, List.getElem_cons_succ, List.getElem_cons_zero, List.setIfInBounds_toArray, List.set_cons_zero, List.set_cons_succ]
        refine wpAnyH_ready (rs := [7]) (by kernel_rfl) (by simp) ?_
        refine AllReadyH.cons rfl (fun K hK => ?_) AllReadyH.nil
        rw [if_pos (by rfl)]
        go_simp
        refine (HC.out _ bX2).mono ?_
        rintro e0 w3 ⟨a', hpl, c', rfl, hc', hb3⟩
        replace us := (hb3.block _ (lt_of_heap us)).trans us
        replace u5 := (hb3.block _ (lt_of_heap u5)).trans u5
        refine hK.out _ _ (⟨us, u5⟩) (fun _ => ?_)
        clear hK K
        try simp only [Act.put, List.getElem_toArray, List.getElem_cons_succ, List.getElem_cons_zero, List.setIfInBounds_toArray, List.set_cons_zero, List.set_cons_succ]
        refine wpAnyH_ready (rs := [8]) (by kernel_rfl) (by simp) ?_
        refine AllReadyH.cons rfl (fun K hK => ?_) AllReadyH.nil
        rw [if_pos (by rfl)]
        refine wp_update_held (.tmp 20) (.tmp 22) (.tmp 24) 74 rfl 2 41 law2 Tryz.underlying74 mb nn rfl (hmap.keep ?_) ?_ (.int .i64 l[j].id) _ (.int .i64 l[j].id) rfl rfl (Go.Maps.keyOf_int_mk Tryz.underlying2 hwf.1) trivial ?_
        · exact (hb3.block _ (Nat.lt_of_lt_of_le hmap.lt bX2.size)).trans (bX2.block _ hmap.lt)
        · have := HL.out; unfold maxLen; omega
        intro w4 hm4 hg4
        replace us := (hg4.block s (lt_of_heap us) (fun e => hsb (Option.some.inj e))).trans us
        replace u5 := (hg4.block wr.heap.size (lt_of_heap u5) (fun e => hnb (Option.some.inj e))).trans u5
        refine hK.out _ _ (⟨us, u5⟩) (fun _ => ?_)
        clear hK K
        try simp only [Act.put, List.getElem_toArray, List.getElem_cons_succ, List.getElem_cons_zero, List.setIfInBounds_toArray, List.set_cons_zero, List.set_cons_succ]
        refine wpAnyH_done (by kernel_rfl) ?_ _
        have acc := T1.next HK.out.1 hmb HK.out.2.1 HK.out.2.2.1 HK.out.2.2.2.1 HK.out.2.2.2.2 hpl bX2 hb3 hc' hm4 hg4
        rw [← etk] at acc
        have ACC := Lib.hid acc
        clear acc hm4 hg4 hpl hc' hb3 us u5 bX2 HK
        go_wp2_with fail
        go_roundg (gk - 1)
        case measure => omega
        case rel => exact ⟨j + 1, by omega, by go_num, ACC⟩
      · have e : l.take j = l := by rw [List.take_of_length_le]; have := HL.out; omega
        have hA := HA.out
        rw [e] at hA
        have HX := Lib.hid hA
        clear hA HA
        go_wp2_with fail
        go_meet
        case rel => exact HX
  case rest =>
    obtain ⟨nn, ff, hnn, hmap, h3, h4⟩ := hcut.out.all
    have us : wc.heap[s]? = some (.cells sc 79 (0, 0)) := (hcut.out.kept.block s hsl hsb).trans hs
    have inj : ∀ x y : Int, (Lit.int .i64 x) = .int .i64 y → x = y := fun x y e => by injection e
    have hmm : ∀ x, x ∈ l.map EdgeL.id ↔ (ff (.int .i64 x)).isSome = true := fun x => by
      constructor
      · intro hx
        obtain ⟨a, ha, rfl⟩ := List.mem_map.1 hx
        obtain ⟨a', c, _, e, _⟩ := h3 a ha
        rw [e]; rfl
      · intro hx
        by_cases q : x ∈ l.map EdgeL.id
        · exact q
        · have := h4 (.int .i64 x) fun a ha e => q (by rw [inj _ _ e]; exact List.mem_map_of_mem ha)
          rw [this] at hx
          cases hx
    have HS := Lib.hid (sortedEAt mb nn ff (l.map EdgeL.id) wc hmap HD.out hmm (by have := HL.out; omega))
    have c0 := cell_of us 1 h0
    have H3 := Lib.hid (And.intro hmap (And.intro h3 h4))
    have HT := Lib.hid hcut.out
    obtain ⟨nums, hnums⟩ : ∃ nums, nums = (l.map EdgeL.id).mergeSort leI := ⟨_, rfl⟩
    rw [← hnums] at HS
    have HN := Lib.hid hnums
    have HNN := Lib.hid hnn
    clear hmm hnn h3 h4 hmap hcut hnums
    go_upto_region 6 with (first
      | (go_at_call 82; (with_reducible refine (keysEAt mb _).mono ?_); rintro e w1 ⟨rfl, rfl⟩)
      | (go_at_call 79; (with_reducible refine HS.out.mono ?_); rintro e w2 ⟨V, rfl, hV, hb2⟩
         have bk : Below wc.heap.size wc w2 := (below1 wc (.cells #[.map (some mb)] 74)).trans (hb2.mono (by omega))
         replace us := (bk.block s (lt_of_heap us)).trans us
         have c2 := cell_of us 3 h2
         have f2 := free_of us 3
         obtain ⟨pV, cV, rfl⟩ := own_slice hV))
    have hVt := hb2.size
    have zV : wc.heap.size < w2.heap.size := by have := hb2.size; simp at this; omega
    have us3 := heap_set us 3 (.slice pV nums.length cV)
    have kt := HT.out.kept
    have sl1 := lt_of_heap us
    have hV3 : (w2.setCell ⟨s, 3, none⟩ (.slice pV nums.length cV)).ownsRow (wc.heap.size + 1) 2 1 (.slice pV nums.length cV) nums.length (nums.map (Value.int .i64)) :=
      own_keep hV fun g e => Below.heap_setCell _ _ _ _ (by show g ≠ s; have := (hV.lt g e).1; have := kt.size; omega)
    have k3 : Kept (fun i => i = mb ∨ i = s) w (w2.setCell ⟨s, 3, none⟩ (.slice pV nums.length cV)) := ((kt.more (fun i e => .inl e)).below bk).set (.inr rfl) _
    have st3 : Stays (New w wc) (New w wc) wc (w2.setCell ⟨s, 3, none⟩ (.slice pV nums.length cV)) := fun g hg => ⟨hg, (Below.heap_setCell _ _ _ _ (by show g ≠ s; have := hg.1; omega)).trans (bk.block g hg.2)⟩
    have mb3 : (w2.setCell ⟨s, 3, none⟩ (.slice pV nums.length cV)).heap[mb]? = wc.heap[mb]? := (Below.heap_setCell _ _ _ _ (by show mb ≠ s; exact fun e => hsb e.symm)).trans (bk.block mb (Nat.lt_of_lt_of_le hmb kt.size))
    have lb3 : (w2.setCell ⟨s, 3, none⟩ (.slice pV nums.length cV)).heap[lb]? = some (.map #[] 0) := (k3.block lb hlbl (fun e => by rcases e with e | e; exact hlm e; exact hls e)).trans HLB.out
    have z3 : wc.heap.size < (w2.setCell ⟨s, 3, none⟩ (.slice pV nums.length cV)).heap.size := by simpa using zV
    obtain ⟨hmapc, h3c, h4c⟩ := H3.out
    have hmap3 := hmapc.keep mb3
    have h33 : ∀ a ∈ l, ∃ a' c, PlainE a a' ∧ ff (.int .i64 a.id) = some (.agg c.toArray) ∧ edgeE.rel (w2.setCell ⟨s, 3, none⟩ (.slice pV nums.length cV)) (New w wc) c a' := fun a ha => by
      obtain ⟨a', c, q1, q2, q3⟩ := h3c a ha
      exact ⟨a', c, q1, q2, edgeE.stays st3 q3⟩
    obtain ⟨sc3, hsc3⟩ : ∃ sc3, sc3 = sc.setIfInBounds 3 (.slice pV nums.length cV) := ⟨_, rfl⟩
    rw [← hsc3] at us3
    have q0 : sc3[1]? = some (.map (some mb)) := by rw [hsc3, Array.getElem?_setIfInBounds_ne (by omega)]; exact h0
    have q4 : sc3[5]? = some (.map (some lb)) := by rw [hsc3, Array.getElem?_setIfInBounds_ne (by omega)]; exact h4
    have q2 : sc3[3]? = some (.slice pV nums.length cV) := by
      rw [hsc3, Array.getElem?_setIfInBounds_self_of_lt]
      exact (Array.getElem?_eq_some_iff.1 h2).1
    have HV := Lib.hid hV3
    have HK3 := Lib.hid k3
    have HM3 := Lib.hid hmap3
    have H33 := Lib.hid h33
    have c23 := cell_of us3 3 q2
    have hkc := kt.size
    have HG0 : Hid (Groups 98 KW (w2.setCell ⟨s, 3, none⟩ (.slice pV nums.length cV)) (w2.setCell ⟨s, 3, none⟩ (.slice pV nums.length cV)).heap.size lb []) := Lib.hid (Groups.start lb3)
    have HSC := Lib.hid hsc3
    have H4C := Lib.hid h4c
    clear hV hV3 k3 st3 mb3 lb3 hmapc h3c h4c hmap3 h33 H3 HS c0 c2 f2 us bk hb2 sl1 hVt zV hsc3 kt
    generalize w2.setCell ⟨s, 3, none⟩ (.slice pV nums.length cV) = w3 at *
    have HEV : Hid (∀ i, nums[i]? ≠ none → ∃ a ∈ l, a.id = nums[i]! ) := Lib.hid fun i hi => by
      have hi' : i < nums.length := by
        by_cases q : i < nums.length
        · exact q
        · exact absurd (List.getElem?_eq_none (by omega)) hi
      have hmm : ∀ x, x ∈ nums → x ∈ l.map EdgeL.id := fun x hx => by
        rw [HN.out] at hx
        exact List.mem_mergeSort.1 hx
      have := hmm _ (List.getElem_mem hi')
      obtain ⟨a, ha, e⟩ := List.mem_map.1 this
      exact ⟨a, ha, by rw [e, getElem!_pos nums i hi']⟩
    have HEL : Hid (∀ j, ((nums.take j).flatMap (evE l)).length ≤ j * 4) := Lib.hid fun j => by
      refine Nat.le_trans (flatMap_le (evE l) 4 (nums.take j) fun x hx => ?_) (Nat.mul_le_mul_right _ (List.length_take_le j nums))
      have hx2 : x ∈ l.map EdgeL.id := by
        have := List.mem_of_mem_take hx
        rw [HN.out] at this
        exact List.mem_mergeSort.1 this
      obtain ⟨a, ha, rfl⟩ := List.mem_map.1 hx2
      unfold evE
      rw [List.length_map, edgeWays_eq HD.out ha]
      exact (waysL_len _ _).1
    obtain ⟨K, hK⟩ : ∃ K, K = nums.length := ⟨_, rfl⟩
    have hKn := Lib.hid (show K = n by rw [hK, HN.out, List.length_mergeSort, List.length_map, HL.out])
    have hK9 : K ≤ 65536 := by have := hKn.out; omega
    rw [← hK] at c23 q2 HV ⊢
    have HKL := Lib.hid hK
    clear hK
    go_wp2_with fail
    go_loopg [40] K (fun gg s40 wr => ∃ j : Nat, j + gg = K ∧ s40 = .int .i64 j ∧ Hid (T2 98 KW lb w3 ((nums.take j).flatMap (evE l)) wr))
    case atStart => exact ⟨0, by omega, rfl, Lib.hid ⟨HG0.out, Kept.refl _ _⟩⟩
    case round =>
      obtain ⟨j, hjg, rfl, HA⟩ := hrel
      by_cases hlt : (j : Int) < K
      · have hj1 : j < nums.length := by have := HKL.out; omega
        obtain ⟨a, ha, hid⟩ := HEV.out j (by rw [List.getElem?_eq_getElem hj1]; simp)
        rw [getElem!_pos nums j hj1] at hid
        obtain ⟨a', c, hpl, hff, hq⟩ := H33.out a ha
        have hone := edgeE.one hq
        obtain ⟨pv, rfl, ⟨hw1, hw2, hw3⟩, _, _, _⟩ := hq
        rw [hpl.1] at hw1 hff hone
        rw [hpl.2.1] at hw2 hff hone
        rw [hpl.2.2.1] at hw3 hff hone
        rw [hpl.2.2.2.1] at hff hone
        have kr := HA.out.kept
        have hv := HV.out
        rw [HKL.out] at hv
        have iv := ints_of_own (own_keep hv fun g e => kr.block g (hv.lt g e).2 (fun (q : g = lb) => by have := (hv.lt g e).1; omega))
        obtain ⟨pp, cc, e0, hcv⟩ := iv
        injection e0 with e1 e2 e3
        subst e1
        obtain ⟨g, off, rfl, hcj⟩ := hcv (by intro q; rw [q] at hj1; simp at hj1)
        have cj : wr.cell? ⟨g, off + j, none⟩ = some (.int .i64 a.id) := by
          rw [hcj j hj1, hid]
          simp [hj1]
        have usr : wr.heap[s]? = some (.cells sc3 79 (0, 0)) := (kr.block s (lt_of_heap us3) (fun q => hls q.symm)).trans us3
        have hmr := HM3.out.keep (kr.block mb HM3.out.lt (fun q => hlm q.symm))
        have c0 := cell_of usr 1 q0
        have hki : keyOf Tryz.prog 2 (.int .i64 a.id) = some (.int .i64 a.id) := Go.Maps.keyOf_int_mk Tryz.underlying2 hw1
        obtain ⟨ways, hways⟩ : ∃ ways, ways = waysL a.src a.dst := ⟨_, rfl⟩
        obtain ⟨m, hm⟩ : ∃ m, m = ways.length := ⟨_, rfl⟩
        have hpos : 0 < ways.length := by rw [hways]; exact (waysL_len _ _).2
        have hle : ways.length ≤ 4 := by rw [hways]; exact (waysL_len _ _).1
        have etj : (nums.take (j + 1)).flatMap (evE l) = (nums.take j).flatMap (evE l) ++ ways.map (fun p => (mkW p, a.id)) := by
          have q : edgeWays l nums[j] = ways := by rw [← hid, edgeWays_eq HD.out ha, hways]
          rw [List.take_succ_eq_append_getElem hj1, List.flatMap_append]
          simp [evE, q, hid]
        have HWA := Lib.hid (waysAt a.id a.src a.dst a.type pv · hw2 hw3)
        have HWF : Hid (∀ p ∈ ways, (Lit.int .i64 p.1).wf = true ∧ (Lit.int .i64 p.2).wf = true) := Lib.hid (by rw [hways]; exact waysL_wf hw2 hw3)
        have HLV := Lib.hid (And.intro hm (And.intro etj hle))
        have hm4 : m ≤ 4 := by omega
        have HWY := Lib.hid hways
        clear hcv hcj hpl hv e2 e3 hid hw1 hw2 hw3 etj hle hways
        go_wp2_with (first
          | (at_lookup; refine wpList_look_held rfl _ _ 74 rfl 2 41 law2 Tryz.underlying74 (zero74 _) mb nn rfl hmr _ (.int .i64 a.id) rfl hki trivial ?_; rw [hff]; simp only [Option.getD_some])
          | ((with_reducible refine wpList_storeE (.tmp 8) (.tmp 49) wr.heap.size 41 41 _ [.int .i64 a.id, .int .i64 a.src, .int .i64 a.dst, .string a.type, pv] 5 (heap_new _ _ rfl) rfl ?_ ?_ ?_ ?_ size_edgeE rfl hone ?_); rfl; rfl; rfl; rfl; intro wX oX u5)
          | ((with_reducible refine wpList_loadRowE (.tmp 8) wr.heap.size 41 41 [.int .i64 a.id, .int .i64 a.src, .int .i64 a.dst, .string a.type, pv] 5 _ u5 rfl Tryz.underlying41 rfl size_edgeE ?_ ?_ ?_ ?_); rfl; rfl; rfl)
          | (go_at_call 83; (with_reducible refine (HWA.out _).mono ?_); rintro e w4 ⟨V, rfl, hV, hb4⟩; rw [← HWY.out] at hV; obtain ⟨gw, cw, rfl⟩ := own_ptr hV hpos; rw [← hm]))
        have bX : Below wr.heap.size wr wX := below_only (below1 wr _) oX (Nat.le_refl _) (by simp)
        have b4 : Below wr.heap.size wr w4 := bX.trans (hb4.mono bX.size)
        have t0 : T3 gw (.slice (some ⟨gw, 0, none⟩) ways.length cw) ways lb w3 ((nums.take j).flatMap (evE l)) w4 := ⟨(HA.out.grp.shuns (No := fun i => i = gw) (fun g q => by have := (hV.lt gw rfl).1; have := bX.size; have q' : g = gw := q; omega)).keep (fun i _ hi => b4.block i hi), kr.below b4, own_base hV (by have := kr.size; have := bX.size; omega), (hV.lt gw rfl).2⟩
        have hHA0 : Hid (T3 gw (.slice (some ⟨gw, 0, none⟩) ways.length cw) ways lb w3 ((nums.take j).flatMap (evE l) ++ (ways.take 0).map (fun p => (mkW p, a.id))) w4) := Lib.hid (by simpa using t0)
        have HJ := Lib.hid hj1
        clear HA hmr usr c0 hff cj hki kr hj1 t0 bX b4 hV hb4 oX u5
        go_loopg [53] m (fun gg s53 wq => ∃ i : Nat, i + gg = m ∧ s53 = .int .i64 i ∧ Hid (T3 gw (.slice (some ⟨gw, 0, none⟩) ways.length cw) ways lb w3 ((nums.take j).flatMap (evE l) ++ (ways.take i).map (fun p => (mkW p, a.id))) wq))
        case atStart => exact ⟨0, by omega, rfl, hHA0⟩
        case round =>
          obtain ⟨i, hig, rfl, HA2⟩ := hrel
          by_cases hlt2 : (i : Int) < m
          · have hi1 : i < ways.length := by have := HLV.out.1; omega
            have kq := HA2.out.kept
            have hr := way_range HA2.out.row i hi1
            obtain ⟨p, hp⟩ : ∃ p, p = ways[i] := ⟨_, rfl⟩
            have hpw := HWF.out p (by rw [hp]; exact List.getElem_mem hi1)
            rw [← hp] at hr
            have us : wr.heap[s]? = some (.cells sc3 79 (0, 0)) := (kq.block s (lt_of_heap us3) (fun q => hls q.symm)).trans us3
            obtain ⟨n2, f2, hn2, hm2, h32, h42, h52⟩ := HA2.out.grp
            obtain ⟨wy, hwy⟩ : ∃ wy, wy = mkW p := ⟨_, rfl⟩
            have hkey := KW_key wy
            rw [show wy.1 = p by rw [hwy]; exact mkW_eq hpw] at hkey
            obtain ⟨E, hE⟩ : ∃ E, E = (nums.take j).flatMap (evE l) ++ (ways.take i).map (fun p => (mkW p, a.id)) := ⟨_, rfl⟩
            have hEE : (nums.take j).flatMap (evE l) ++ (ways.take (i + 1)).map (fun p => (mkW p, a.id)) = E ++ [(wy, a.id)] := by
              rw [hE, List.take_succ_eq_append_getElem hi1, List.map_append, List.append_assoc, hwy, hp]
              rfl
            have hEl : E.length ≤ 549755813888 := by
              have h1 := HEL.out j
              have h2 : E.length ≤ ((nums.take j).flatMap (evE l)).length + i := by
                rw [hE, List.length_append, List.length_map]
                have := List.length_take_le i ways
                omega
              have h3 := HLV.out.2.2
              have h4 := hKn.out
              omega
            rw [← hE] at hn2 h32 HA2
            obtain ⟨v0, hv0⟩ : ∃ v0, v0 = (f2 (KW wy)).getD (.slice none 0 0) := ⟨_, rfl⟩
            have hrow := groups_row h32 wy
            rw [← hv0] at hrow
            have hs3 := lt_of_heap us3
            have hsrow : v0.ownBlock ≠ some s := fun q => by
              have := (hrow.lt s q).1
              omega
            have hlrow : v0.ownBlock ≠ some lb := fun q => by
              have := (hrow.lt lb q).1
              omega
            have hnrow : v0.ownBlock ≠ some wr.heap.size := fun q => by
              have := (hrow.lt _ q).2
              omega
            have hwrow : v0.ownBlock ≠ some gw := fun q => by
              cases r : f2 (KW wy) with
              | none => rw [hv0, r] at q; cases q
              | some v => rw [hv0, r] at q; exact h52 wy v gw r q rfl
            have hnl : lb ≠ wr.heap.size := fun q => by have := hm2.lt; omega
            have hrk : ∀ i, v0.ownBlock = some i → i < w3.heap.size → i = lb := fun i q hi => by
              have := (hrow.lt i q).1
              omega
            have HE := Lib.hid (And.intro hn2 hEl)
            have HEE := Lib.hid hEE
            have hgl := grp_len E wy
            have H32 := Lib.hid (And.intro h32 (And.intro h42 h52))
            have HV0 := Lib.hid hv0
            have HROW := Lib.hid hrow
            clear hn2 hEl hEE h32 h42 h52 hE kq hrow hv0 hp hpw hwy
            obtain ⟨i0, hi, hz0, hz1, hz2⟩ := info_parts zero_intE
            go_upto_region 13 with (first
              | ((with_reducible refine wpList_loadE (.tmp 55) gw (i * 2) 98 [.int .i64 p.1, .int .i64 p.2] 2 _ hr rfl Tryz.underlying98 rfl size98 ?_ ?_ ?_ ?_); rfl; rfl; rfl)
              | ((with_reducible refine wpList_storeE (.tmp 10) (.tmp 56) wr.heap.size 98 98 _ [.int .i64 p.1, .int .i64 p.2] 2 (heap_new _ _ rfl) rfl ?_ ?_ ?_ ?_ size98 rfl (by simp [Value.oneCell']) ?_); rfl; rfl; rfl; rfl; intro wX oX ux))
            have bX : Below wr.heap.size wr wX := below_only (below1 wr _) oX (Nat.le_refl _) (by simp)
            have bXz : wr.heap.size < wX.heap.size := lt_of_heap ux
            replace us : wX.heap[s]? = _ := (bX.block s (lt_of_heap us)).trans us
            refine wp_region_held_drew (S := fun W => W.heap[s]? = some (.cells sc3 79 (0, 0)) ∧ W.heap[wr.heap.size]? = some (.cells #[.int .i64 p.1, .int .i64 p.2] 98 (0, 0))) (by kernel_rfl) ⟨us, ux⟩ (fun _ => ?_)
            replace us : wX.drew.heap[s]? = _ := us
            replace ux : wX.drew.heap[wr.heap.size]? = _ := ux
            refine wpAnyH_take (i := 0) (v := .pointer (some ⟨s, 0, none⟩)) rfl (by kernel_rfl) (by kernel_rfl) (by kernel_rfl) (fun _ _ _ h => h) (Or.inl ⟨by rfl, fun W _ => by go_simp⟩) (⟨us, ux⟩) ?_
            try simp only [Act.put, List.getElem_toArray, List.getElem_cons_succ, List.getElem_cons_zero, List.setIfInBounds_toArray, List.set_cons_zero, List.set_cons_succ]
            refine wpAnyH_take (i := 4) (v := .agg #[.int .i64 p.1, .int .i64 p.2]) rfl (by kernel_rfl) (by kernel_rfl) (by kernel_rfl) (fun _ _ _ h => h) (yieldsIf_load_mid (by rfl) 98 (.tmp 10) rfl wr.heap.size 0 rfl [.int .i64 p.1, .int .i64 p.2] _ (fun W h => range_of_heap h.2 0 _ rfl) Tryz.underlying98 rfl size98) (⟨us, ux⟩) ?_
            try simp only [Act.put, List.getElem_toArray, List.getElem_cons_succ, List.getElem_cons_zero, List.setIfInBounds_toArray, List.set_cons_zero, List.set_cons_succ]
            refine wpAnyH_take (i := 5) (v := .int .i64 a.id) rfl (by kernel_rfl) (by kernel_rfl) (by kernel_rfl) (fun _ _ _ h => h) (Or.inl ⟨by rfl, fun W _ => by go_simp⟩) (⟨us, ux⟩) ?_
            try simp only [Act.put, List.getElem_toArray, List.getElem_cons_succ, List.getElem_cons_zero, List.setIfInBounds_toArray, List.set_cons_zero, List.set_cons_succ]
            refine wpAnyH_take (i := 1) (v := .pointer (some ⟨s, 0, none⟩)) rfl (by kernel_rfl) (by kernel_rfl) (by kernel_rfl) (fun _ _ _ h => h) (Or.inl ⟨by rfl, fun W _ => by go_simp⟩) (⟨us, ux⟩) ?_
            try simp only [Act.put, List.getElem_toArray, List.getElem_cons_succ, List.getElem_cons_zero, List.setIfInBounds_toArray, List.set_cons_zero, List.set_cons_succ]
            refine wpAnyH_take (i := 2) (v := .pointer (some ⟨s, 5, none⟩)) rfl (by kernel_rfl) (by kernel_rfl) (by kernel_rfl) (fun _ _ _ h => h) (Or.inl ⟨by rfl, fun W _ => by go_simp⟩) (⟨us, ux⟩) ?_
            try simp only [Act.put, List.getElem_toArray, List.getElem_cons_succ, List.getElem_cons_zero, List.setIfInBounds_toArray, List.set_cons_zero, List.set_cons_succ]
            refine wpAnyH_take (i := 3) (v := .map (some lb)) rfl (by kernel_rfl) (by kernel_rfl) (by kernel_rfl) (fun _ _ _ h => h) (Or.inl ⟨by rfl, fun W h => by have c0 := cell_of h.1 5 q4; go_simp⟩) (⟨us, ux⟩) ?_
            try simp only [Act.put, List.getElem_toArray, List.getElem_cons_succ, List.getElem_cons_zero, List.setIfInBounds_toArray, List.set_cons_zero, List.set_cons_succ]
            refine wpAnyH_ready (rs := [6]) (by kernel_rfl) (by simp) ?_
            refine AllReadyH.cons rfl (fun K hK => ?_) AllReadyH.nil
            rw [if_pos (by rfl)]
            go_simp
            have us5 : ((wX.alloc (.cells #[.int .i64 a.id] 2)).drew).heap[s]? = some (.cells sc3 79 (0, 0)) := heap_old _ us
            have ux5 : ((wX.alloc (.cells #[.int .i64 a.id] 2)).drew).heap[wr.heap.size]? = some (.cells #[.int .i64 p.1, .int .i64 p.2] 98 (0, 0)) := heap_old _ ux
            have b5 : Below wr.heap.size wr (wX.alloc (.cells #[.int .i64 a.id] 2)).drew := (bX.alloc bX.size _).drew
            obtain ⟨w5, hw5⟩ : ∃ w5, w5 = (wX.alloc (.cells #[.int .i64 a.id] 2)).drew := ⟨_, rfl⟩
            have n5 : ∀ j u, [Value.int .i64 a.id][j]? = some u → w5.cell? ((⟨wX.heap.size, 0, none⟩ : Addr).add j) = some u := by rw [hw5]; exact cell_one_new wX _ _
            rw [← hw5] at us5 ux5 b5 ⊢
            clear hw5
            refine hK.out _ _ (⟨us5, ux5⟩) (fun _ => ?_)
            clear hK K
            try simp only [Act.put, List.getElem_toArray, List.getElem_cons_succ, List.getElem_cons_zero, List.setIfInBounds_toArray, List.set_cons_zero, List.set_cons_succ]
            refine wpAnyH_ready (rs := [7]) (by kernel_rfl) (by simp) ?_
            refine AllReadyH.cons rfl (fun K hK => ?_) AllReadyH.nil
            rw [if_pos (by rfl)]
            obtain ⟨stm, wE, es1, cl1, hrun, hEb, hgE, hES⟩ := (hm2.keep (b5.block lb hm2.lt)).entry law98K Tryz.underlying76 (z := .slice none 0 0) (fun u => by kernel_rfl) (by have := HE.out.1; have := HE.out.2; unfold maxLen; omega) hkey trivial
            rw [← HV0.out] at hrun
            go_simp
            clear hrun
            have us6 := (hgE.block s (lt_of_heap us5) (fun q => hls (Option.some.inj q).symm)).trans us5
            have ux6 := (hgE.block wr.heap.size (lt_of_heap ux5) (fun q => hnl (Option.some.inj q).symm)).trans ux5
            have b6 : ∀ i, i < wr.heap.size → i ≠ lb → wE.heap[i]? = wr.heap[i]? := fun i hi hne => (hgE.block i (Nat.lt_of_lt_of_le hi b5.size) (fun q => hne (Option.some.inj q))).trans (b5.block i hi)
            have s6 : wr.heap.size ≤ wE.heap.size := Nat.le_trans b5.size hgE.size
            have n6 : ∀ j u, [Value.int .i64 a.id][j]? = some u → wE.cell? ((⟨wX.heap.size, 0, none⟩ : Addr).add j) = some u := fun j u hj => cell_keep (n5 j u hj) hgE (fun q => by have e2 : lb = wX.heap.size := Option.some.inj (q.trans (congrArg some (add_block _ _))); have := hm2.lt; omega)
            refine hK.out _ _ (⟨us6, ux6⟩) (fun _ => ?_)
            clear hK K
            try simp only [Act.put, List.getElem_toArray, List.getElem_cons_succ, List.getElem_cons_zero, List.setIfInBounds_toArray, List.set_cons_zero, List.set_cons_succ]
            refine wpAnyH_take (i := 8) (v := v0) rfl (by kernel_rfl) (by kernel_rfl) (by kernel_rfl) (fun _ _ _ h => h) (Or.inl ⟨by rfl, fun W _ => by go_simp⟩) (⟨us6, ux6⟩) ?_
            try simp only [Act.put, List.getElem_toArray, List.getElem_cons_succ, List.getElem_cons_zero, List.setIfInBounds_toArray, List.set_cons_zero, List.set_cons_succ]
            refine wpAnyH_take (i := 10) (v := goInt stm) rfl (by kernel_rfl) (by kernel_rfl) (by kernel_rfl) (fun _ _ _ h => h) (Or.inl ⟨by rfl, fun W _ => by go_simp⟩) (⟨us6, ux6⟩) ?_
            try simp only [Act.put, List.getElem_toArray, List.getElem_cons_succ, List.getElem_cons_zero, List.setIfInBounds_toArray, List.set_cons_zero, List.set_cons_succ]
            refine wpAnyH_ready (rs := [9]) (by kernel_rfl) (by simp) ?_
            refine AllReadyH.cons rfl (fun K hK => ?_) AllReadyH.nil
            rw [if_pos (by rfl)]
            refine wp_append_own_at (P := Tryz.prog) (w := wE) (.tmp 62) (.tmp 64) 42 rfl w3.heap.size 2 i0 (.int .i64 0) 1 8 Tryz.underlying42 hi hz0 hz1 hz2 rfl (by decide) v0 (grp E wy).length ((grp E wy).map (Value.int .i64)) rfl (own_keep HROW.out fun g q => b6 g (HROW.out.lt g q).2 (fun r => hlrow (by rw [q, r]))) ⟨wX.heap.size, 0, none⟩ 1 1 [.int .i64 a.id] rfl rfl n6 (by simp [Value.oneCell']) (by have := HE.out.2; unfold maxLen; omega) (by have := HE.out.2; omega) (by have := HA2.out.kept.size; omega) ?_
            intro v' w6 ho6 hg6 _ hloc6
            have us7 := (hg6.block s (lt_of_heap us6) (fun q => hsrow q.symm)).trans us6
            have ux7 := (hg6.block wr.heap.size (lt_of_heap ux6) (fun q => hnrow q.symm)).trans ux6
            have hb7 := (hg6.block lb (lt_of_heap hEb) (fun q => hlrow q.symm)).trans hEb
            refine hK.out _ _ (⟨us7, ux7⟩) (fun _ => ?_)
            clear hK K
            try simp only [Act.put, List.getElem_toArray, List.getElem_cons_succ, List.getElem_cons_zero, List.setIfInBounds_toArray, List.set_cons_zero, List.set_cons_succ]
            refine wpAnyH_ready (rs := [11]) (by kernel_rfl) (by simp) ?_
            refine AllReadyH.cons rfl (fun K hK => ?_) AllReadyH.nil
            rw [if_pos (by rfl)]
            obtain ⟨w7, hrun, hm7, hg7⟩ := hES w6 v' hb7
            refine wp_entry_store (.tmp 60) (.tmp 67) (.tmp 66) 76 rfl rfl rfl rfl hrun ?_
            clear hrun
            have us8 := (hg7.block s (lt_of_heap us7) (fun q => hls (Option.some.inj q).symm)).trans us7
            have ux8 := (hg7.block wr.heap.size (lt_of_heap ux7) (fun q => hnl (Option.some.inj q).symm)).trans ux7
            refine hK.out _ _ (⟨us8, ux8⟩) (fun _ => ?_)
            clear hK K
            try simp only [Act.put, List.getElem_toArray, List.getElem_cons_succ, List.getElem_cons_zero, List.setIfInBounds_toArray, List.set_cons_zero, List.set_cons_succ]
            refine wpAnyH_done (by kernel_rfl) ?_ _
            have gN := GroupsN.add (w5 := wE) KW_inj (show lb < w3.heap.size by omega) HE.out.1 H32.out.1 H32.out.2.1 H32.out.2.2 s6 b6 ho6 (by rw [← HV0.out]; exact hg6) (by rw [← HV0.out]; exact hloc6) (fun q => by have q' : wE.heap.size = gw := q; have := HA2.out.lt; omega) hm7 hg7
            have k7 : Kept (fun i => i = lb) w3 w7 := (((HA2.out.kept.below b5).grown hgE (fun i q _ => (Option.some.inj q).symm)).grown hg6 hrk).grown hg7 (fun i q _ => (Option.some.inj q).symm)
            have r7 : w7.ownsRow w3.heap.size 98 2 (.slice (some ⟨gw, 0, none⟩) ways.length cw) ways.length (wayCells ways) := own_grown (own_grown (own_keep HA2.out.row fun g q => b6 g (HA2.out.row.lt g q).2 (by have := (HA2.out.row.lt g q).1; omega)) hg6 (fun g q => by have e : gw = g := Option.some.inj q; rw [← e]; exact hwrow)) hg7 (fun g q e => by have e2 := Option.some.inj e; have := (HA2.out.row.lt g q).1; omega)
            have acc : T3 gw (.slice (some ⟨gw, 0, none⟩) ways.length cw) ways lb w3 (E ++ [(wy, a.id)]) w7 := ⟨gN, k7, r7, by have := HA2.out.lt; have := hg6.size; have := hg7.size; omega⟩
            rw [← HEE.out] at acc
            have ACC := Lib.hid acc
            clear acc gN k7 r7 hm7 hg7 ho6 hg6 hloc6 b5 b6 us5 us6 us7 us8 ux5 ux6 ux7 ux8 n5 n6 hES hEb hgE hb7
            go_wp2_with fail
            go_roundg (gk - 1)
            case measure => omega
            case rel => exact ⟨i + 1, by omega, by go_num, ACC⟩
          · have e : ways.take i = ways := by rw [List.take_of_length_le]; have := HLV.out.1; omega
            have hA2 := HA2.out
            rw [e, ← HLV.out.2.1] at hA2
            have HX := Lib.hid (T2.mk hA2.grp.is hA2.kept)
            clear hA2 HA2 e
            go_wp2_with fail
            go_roundg (K - j - 1)
            case measure => omega
            case rel => exact ⟨j + 1, by omega, by go_num, HX⟩
      · have e : nums.take j = nums := by rw [List.take_of_length_le]; have := HKL.out; omega
        have hA := HA.out
        rw [e] at hA
        have kr := hA.kept
        have zlt := lt_of_heap us3
        have fin : EPost w s mb lb sc l (.returned (.tuple #[])) wr := by
          refine ⟨rfl, .slice pV K cV, wc.heap.size, w3.heap.size, (kr.block s zlt (fun q => hls q.symm)).trans (by have h := HSC.out; rw [← HKL.out] at h; rw [← h]; exact us3), ?_, AllIn.stays (P := New w wc) ⟨nn, ff, HNN.out, HM3.out, H33.out, H4C.out⟩ (fun g hg => ⟨⟨hg.1, hg.2⟩, kr.block g (by have := hg.2; omega) (fun (q : g = lb) => by have := hg.1; omega)⟩) (kr.block mb HM3.out.lt (fun q => hlm q.symm)), ?_, hkc, by omega, kr.size, fun g e => (HV.out.lt g e).2, ?_⟩
          · rw [← HN.out]
            have := HKL.out
            rw [← this]
            exact own_keep HV.out fun g e => kr.block g (HV.out.lt g e).2 (fun (q : g = lb) => by have := (HV.out.lt g e).1; omega)
          · rw [← HN.out]
            exact hA.grp
          · exact (HK3.out.more (fun i h => by rcases h with h | h; exact .inr (.inl h); exact .inl h)).trans (kr.more (fun i h => .inr (.inr h)) |>.weak HK3.out.size)
        have HF := Lib.hid fin
        clear fin hA HA kr e
        go_wp2_with fail
        refine bodyPost_ret (results_none rfl _ _ _) rfl ?_
        exact HF.out
end Go.Proofs.YtcfmenkigolnoaaGreatDoor
