/- Texts of one kind, one behind the other: each says ahead of itself what it shows. -/
import Derived.Test.YtcfmenkigolnoaaGreatDoorQap
/- light: how great a graph is. -/
namespace Go.Proofs.YtcfmenkigolnoaaGreatDoor
open Go.RowKit

def LightPost (W : World) (e : Ending) (w' : World) : Prop := ∃ b, e = .returned (.bool b) ∧ Below W.heap.size W w'
theorem wrap64_id {x : Int} (h0 : -9223372036854775808 ≤ x) (h1 : x < 9223372036854775808) : IntKind.i64.wrap x = x := by
  have e1 : (2 : Int) ^ IntKind.i64.bits = 18446744073709551616 := by decide
  have e2 : (2 : Int) ^ (IntKind.i64.bits - 1) = 9223372036854775808 := by decide
  have e3 : IntKind.i64.signed = true := rfl
  unfold IntKind.wrap
  simp only [e1, e2, e3, Bool.true_and, decide_eq_true_eq]
  split <;> omega
set_option maxHeartbeats 6400000 in
set_option maxRecDepth 20000 in
theorem lightAt (g : GraphL) (vn ve : Value) (W : World) (hn : SliceE nodeE W (Old W) vn g.nodes) (he : SliceE edgeE W (Old W) ve g.edges) (hn1 : g.nodes.length ≤ 2097152) (hn2 : g.edges.length ≤ 2097152) :
    Calls Tryz.prog 8 #[.agg #[vn, ve]] W (LightPost W) := by
  have hnn := hn
  have hee := he
  obtain ⟨p1, cap1, rfl⟩ := hn.slice
  obtain ⟨p2, cap2, rfl⟩ := he.slice
  obtain ⟨n1, hl1⟩ : ∃ n, n = g.nodes.length := ⟨_, rfl⟩
  obtain ⟨n2, hl2⟩ : ∃ n, n = g.edges.length := ⟨_, rfl⟩
  rw [← hl1] at hn1
  rw [← hl2] at hn2
  rw [← hl1] at hnn
  rw [← hl2] at hee
  rw [← hl1, ← hl2]
  have u1 : (W.alloc (.cells #[.slice p1 n1 cap1, .slice p2 n2 cap2] 25)).heap[W.heap.size]? = some (.cells #[.slice p1 n1 cap1, .slice p2 n2 cap2] 25 (0, 0)) := heap_new _ _ rfl
  have b0 := below1 W (.cells #[.slice p1 n1 cap1, .slice p2 n2 cap2] 25)
  obtain ⟨W0, hW0⟩ : ∃ W0, W0 = W.alloc (.cells #[.slice p1 n1 cap1, .slice p2 n2 cap2] 25) := ⟨_, rfl⟩
  rw [← hW0] at u1 b0
  have H0 := Lib.hid hW0
  have HN := Lib.hid (hnn.stays (old_below b0))
  have HE := Lib.hid (hee.stays (old_below b0))
  have HL := Lib.hid (And.intro hl1 hl2)
  have D0 : ∀ W' : World, W'.heap = W0.heap → W'.heap[W.heap.size]? = some (.cells #[.slice p1 n1 cap1, .slice p2 n2 cap2] 25 (0, 0)) := fun W' h => by rw [h]; exact u1
  have HD := Lib.hid D0
  have c0 := cell_of u1 0 rfl
  have c1 := cell_of u1 1 rfl
  clear hnn hee hn he hl1 hl2 hW0 D0
  go_enter Tryz.func8, Tryz.ntmps8
  go_upto_region 1 with fail
  rw [← H0.out]
  go_upto_block 0 with fail
  go_cut [3, 4] (fun s3 s4 wx => ∃ N : Nat, s3 = .int .i64 N ∧ N ≤ 17592186044416 ∧ wx.heap = W0.heap ∧ Below W.heap.size W wx)
  case first =>
    go_wp2_with fail
    go_loopg [3, 4] n1 (fun gg s3 s4 wr => ∃ j N : Nat, j + gg = n1 ∧ s4 = .int .i64 j ∧ s3 = .int .i64 N ∧ N ≤ 4194304 + j * 4194304 ∧ wr.heap = W0.heap ∧ Below W.heap.size W wr)
    case atStart => exact ⟨0, n1 + n2, by omega, rfl, by go_num, by omega, rfl, b0⟩
    case round =>
      obtain ⟨j, N, hjg, rfl, rfl, hN, hh, hB⟩ := hrel
      have c0r := cell_of (HD.out wr hh) 0 rfl
      by_cases hlt : (j : Int) < n1
      · have hj1 : j < g.nodes.length := by have := HL.out.1; omega
        obtain ⟨g2, off, cap', c, e0, hg, hrl, hra⟩ := HN.out.at_ j hj1
        injection e0 with e1 e2 e3
        subst e1
        replace hra : W0.rangeAt g2 (off + j * 3) c := hra
        obtain ⟨lv, pv, rfl, _, hm1, hm2, hlv, hpv⟩ := hrl
        obtain ⟨pl, capl, rfl⟩ := hlv.slice
        obtain ⟨pp, capp, rfl⟩ := hpv.slice
        obtain ⟨m, hm⟩ : ∃ m, m = g.nodes[j].labels.length := ⟨_, rfl⟩
        obtain ⟨m2, hm2'⟩ : ∃ m, m = g.nodes[j].props.length := ⟨_, rfl⟩
        rw [← hm] at hm1 hra
        rw [← hm2'] at hm2 hra
        have C0 : ∀ W' : World, W'.heap = W0.heap → W'.cell? ⟨W.heap.size, 0, none⟩ = some (.slice (some ⟨g2, off, none⟩) n1 cap1) := fun W' h => cell_of (HD.out W' h) 0 rfl
        have C1 : ∀ W' : World, W'.heap = W0.heap → W'.cell? ⟨g2, off + j * 3 + 1, none⟩ = some (.slice pl m capl) := fun W' h => by
          have := hra 1 _ rfl
          unfold World.cell? at this ⊢
          rw [h]
          exact this
        have C2 : ∀ W' : World, W'.heap = W0.heap → W'.cell? ⟨g2, off + j * 3 + 2, none⟩ = some (.slice pp m2 capp) := fun W' h => by
          have := hra 2 _ rfl
          unfold World.cell? at this ⊢
          rw [h]
          exact this
        have hs0 : (N : Int) < 9223372036854775808 := by omega
        have hs1 : (N : Int) + m < 9223372036854775808 := by omega
        have hs2 : (N : Int) + m + m2 < 9223372036854775808 := by omega
        clear hlv hpv hra e2 e3 hm hm2' c0 c1 u1
        go_upto_region 5 with fail
        refine wp_region_held_drew (S := fun W' => W'.heap = W0.heap) (by kernel_rfl) hh (fun _ => ?_)
        refine wpAnyH_take (i := 0) (v := .int .i64 (N : Int)) rfl (by kernel_rfl) (by kernel_rfl) (by kernel_rfl) (fun _ _ _ h => h) (Or.inl ⟨by rfl, fun W _ => by go_simp⟩) (hh) ?_
        try simp only [Act.put, List.getElem_toArray, List.getElem_cons_succ, List.getElem_cons_zero, List.setIfInBounds_toArray, List.set_cons_zero, List.set_cons_succ]
        refine wpAnyH_take (i := 1) (v := .pointer (some ⟨W.heap.size, 0, none⟩)) rfl (by kernel_rfl) (by kernel_rfl) (by kernel_rfl) (fun _ _ _ h => h) (Or.inl ⟨by rfl, fun W _ => by go_simp⟩) (hh) ?_
        try simp only [Act.put, List.getElem_toArray, List.getElem_cons_succ, List.getElem_cons_zero, List.setIfInBounds_toArray, List.set_cons_zero, List.set_cons_succ]
        refine wpAnyH_take (i := 3) (v := .int .i64 (j : Int)) rfl (by kernel_rfl) (by kernel_rfl) (by kernel_rfl) (fun _ _ _ h => h) (Or.inl ⟨by rfl, fun W _ => by go_simp⟩) (hh) ?_
        try simp only [Act.put, List.getElem_toArray, List.getElem_cons_succ, List.getElem_cons_zero, List.setIfInBounds_toArray, List.set_cons_zero, List.set_cons_succ]
        refine wpAnyH_take (i := 9) (v := .pointer (some ⟨W.heap.size, 0, none⟩)) rfl (by kernel_rfl) (by kernel_rfl) (by kernel_rfl) (fun _ _ _ h => h) (Or.inl ⟨by rfl, fun W _ => by go_simp⟩) (hh) ?_
        try simp only [Act.put, List.getElem_toArray, List.getElem_cons_succ, List.getElem_cons_zero, List.setIfInBounds_toArray, List.set_cons_zero, List.set_cons_succ]
        refine wpAnyH_take (i := 11) (v := .int .i64 (j : Int)) rfl (by kernel_rfl) (by kernel_rfl) (by kernel_rfl) (fun _ _ _ h => h) (Or.inl ⟨by rfl, fun W _ => by go_simp⟩) (hh) ?_
        try simp only [Act.put, List.getElem_toArray, List.getElem_cons_succ, List.getElem_cons_zero, List.setIfInBounds_toArray, List.set_cons_zero, List.set_cons_succ]
        refine wpAnyH_take (i := 2) (v := .slice (some ⟨g2, off, none⟩) n1 cap1) rfl (by kernel_rfl) (by kernel_rfl) (by kernel_rfl) (fun _ _ _ h => h) (Or.inl ⟨by rfl, fun W' h => by have c0 := C0 W' h; go_simp⟩) (hh) ?_
        try simp only [Act.put, List.getElem_toArray, List.getElem_cons_succ, List.getElem_cons_zero, List.setIfInBounds_toArray, List.set_cons_zero, List.set_cons_succ]
        refine wpAnyH_take (i := 10) (v := .slice (some ⟨g2, off, none⟩) n1 cap1) rfl (by kernel_rfl) (by kernel_rfl) (by kernel_rfl) (fun _ _ _ h => h) (Or.inl ⟨by rfl, fun W' h => by have c0 := C0 W' h; go_simp⟩) (hh) ?_
        try simp only [Act.put, List.getElem_toArray, List.getElem_cons_succ, List.getElem_cons_zero, List.setIfInBounds_toArray, List.set_cons_zero, List.set_cons_succ]
        refine wpAnyH_take (i := 4) (v := .pointer (some ⟨g2, off + j * 3, none⟩)) rfl (by kernel_rfl) (by kernel_rfl) (by kernel_rfl) (fun _ _ _ h => h) (Or.inl ⟨by rfl, fun W' _ => by go_simp⟩) (hh) ?_
        try simp only [Act.put, List.getElem_toArray, List.getElem_cons_succ, List.getElem_cons_zero, List.setIfInBounds_toArray, List.set_cons_zero, List.set_cons_succ]
        refine wpAnyH_take (i := 12) (v := .pointer (some ⟨g2, off + j * 3, none⟩)) rfl (by kernel_rfl) (by kernel_rfl) (by kernel_rfl) (fun _ _ _ h => h) (Or.inl ⟨by rfl, fun W' _ => by go_simp⟩) (hh) ?_
        try simp only [Act.put, List.getElem_toArray, List.getElem_cons_succ, List.getElem_cons_zero, List.setIfInBounds_toArray, List.set_cons_zero, List.set_cons_succ]
        refine wpAnyH_take (i := 5) (v := .pointer (some ⟨g2, off + j * 3 + 1, none⟩)) rfl (by kernel_rfl) (by kernel_rfl) (by kernel_rfl) (fun _ _ _ h => h) (Or.inl ⟨by rfl, fun W _ => by go_simp⟩) (hh) ?_
        try simp only [Act.put, List.getElem_toArray, List.getElem_cons_succ, List.getElem_cons_zero, List.setIfInBounds_toArray, List.set_cons_zero, List.set_cons_succ]
        refine wpAnyH_take (i := 13) (v := .pointer (some ⟨g2, off + j * 3 + 2, none⟩)) rfl (by kernel_rfl) (by kernel_rfl) (by kernel_rfl) (fun _ _ _ h => h) (Or.inl ⟨by rfl, fun W _ => by go_simp⟩) (hh) ?_
        try simp only [Act.put, List.getElem_toArray, List.getElem_cons_succ, List.getElem_cons_zero, List.setIfInBounds_toArray, List.set_cons_zero, List.set_cons_succ]
        refine wpAnyH_take (i := 6) (v := .slice pl m capl) rfl (by kernel_rfl) (by kernel_rfl) (by kernel_rfl) (fun _ _ _ h => h) (Or.inl ⟨by rfl, fun W' h => by have c1 := C1 W' h; go_simp⟩) (hh) ?_
        try simp only [Act.put, List.getElem_toArray, List.getElem_cons_succ, List.getElem_cons_zero, List.setIfInBounds_toArray, List.set_cons_zero, List.set_cons_succ]
        refine wpAnyH_take (i := 14) (v := .slice pp m2 capp) rfl (by kernel_rfl) (by kernel_rfl) (by kernel_rfl) (fun _ _ _ h => h) (Or.inl ⟨by rfl, fun W' h => by have c2 := C2 W' h; go_simp⟩) (hh) ?_
        try simp only [Act.put, List.getElem_toArray, List.getElem_cons_succ, List.getElem_cons_zero, List.setIfInBounds_toArray, List.set_cons_zero, List.set_cons_succ]
        refine wpAnyH_take (i := 7) (v := .int .i64 (m : Int)) rfl (by kernel_rfl) (by kernel_rfl) (by kernel_rfl) (fun _ _ _ h => h) (Or.inl ⟨by rfl, fun W _ => by go_simp⟩) (hh) ?_
        try simp only [Act.put, List.getElem_toArray, List.getElem_cons_succ, List.getElem_cons_zero, List.setIfInBounds_toArray, List.set_cons_zero, List.set_cons_succ]
        refine wpAnyH_take (i := 15) (v := .int .i64 (m2 : Int)) rfl (by kernel_rfl) (by kernel_rfl) (by kernel_rfl) (fun _ _ _ h => h) (Or.inl ⟨by rfl, fun W _ => by go_simp⟩) (hh) ?_
        try simp only [Act.put, List.getElem_toArray, List.getElem_cons_succ, List.getElem_cons_zero, List.setIfInBounds_toArray, List.set_cons_zero, List.set_cons_succ]
        refine wpAnyH_take (i := 8) (v := .int .i64 ((N : Int) + m)) rfl (by kernel_rfl) (by kernel_rfl) (by kernel_rfl) (fun _ _ _ h => h) (Or.inl ⟨by rfl, fun W _ => by go_simp; first | exact wrap64_id (by omega) (by omega) | done⟩) (hh) ?_
        try simp only [Act.put, List.getElem_toArray, List.getElem_cons_succ, List.getElem_cons_zero, List.setIfInBounds_toArray, List.set_cons_zero, List.set_cons_succ]
        refine wpAnyH_take (i := 16) (v := .int .i64 ((N : Int) + m + m2)) rfl (by kernel_rfl) (by kernel_rfl) (by kernel_rfl) (fun _ _ _ h => h) (Or.inl ⟨by rfl, fun W _ => by go_simp; first | exact wrap64_id (by omega) (by omega) | done⟩) (hh) ?_
        try simp only [Act.put, List.getElem_toArray, List.getElem_cons_succ, List.getElem_cons_zero, List.setIfInBounds_toArray, List.set_cons_zero, List.set_cons_succ]
        refine wpAnyH_take (i := 17) (v := .int .i64 ((N : Int) + m + m2)) rfl (by kernel_rfl) (by kernel_rfl) (by kernel_rfl) (fun _ _ _ h => h) (Or.inl ⟨by rfl, fun W _ => by go_simp⟩) (hh) ?_
        try simp only [Act.put, List.getElem_toArray, List.getElem_cons_succ, List.getElem_cons_zero, List.setIfInBounds_toArray, List.set_cons_zero, List.set_cons_succ]
        refine wpAnyH_done (by kernel_rfl) ?_ _
        go_wp2_with fail
        go_roundg (gk - 1)
        case measure => omega
        case rel => exact ⟨j + 1, N + m + m2, by omega, by go_num, by go_num, by omega, by show wr.heap = W0.heap; exact hh, hB.drew⟩
      · go_wp2_with fail
        go_meet
        case rel => exact ⟨N, rfl, by omega, hh, hB⟩
  case rest =>
    obtain ⟨N, rfl, hN, hh, hB⟩ := hcut
    go_wp2_with fail
    go_loopg [3, 5] n2 (fun gg s3 s5 wr => ∃ j N : Nat, j + gg = n2 ∧ s5 = .int .i64 j ∧ s3 = .int .i64 N ∧ N ≤ 17592186044416 + j * 4194304 ∧ wr.heap = W0.heap ∧ Below W.heap.size W wr)
    case atStart => exact ⟨0, N, by omega, rfl, rfl, by omega, hh, hB⟩
    case round =>
      clear hN hh hB N
      obtain ⟨j, N, hjg, rfl, rfl, hN, hh, hB⟩ := hrel
      have c0r := cell_of (HD.out wr hh) 1 rfl
      by_cases hlt : (j : Int) < n2
      · have hj1 : j < g.edges.length := by have := HL.out.2; omega
        obtain ⟨g2, off, cap', c, e0, hg, hrl, hra⟩ := HE.out.at_ j hj1
        injection e0 with e1 e2 e3
        subst e1
        replace hra : W0.rangeAt g2 (off + j * 5) c := hra
        obtain ⟨pv, rfl, _, _, hm2, hpv⟩ := hrl
        obtain ⟨pp, capp, rfl⟩ := hpv.slice
        obtain ⟨m2, hm2'⟩ : ∃ m, m = g.edges[j].props.length := ⟨_, rfl⟩
        rw [← hm2'] at hm2 hra
        have C2 : wr.cell? ⟨g2, off + j * 5 + 4, none⟩ = some (.slice pp m2 capp) := by
          have := hra 4 _ rfl
          unfold World.cell? at this ⊢
          rw [hh]
          exact this
        have hs1 : (N : Int) + m2 < 9223372036854775808 := by omega
        clear hpv hra e2 e3 hm2' c0 c1 u1
        go_wp2_with fail
        go_roundg (gk - 1)
        case measure => omega
        case rel => exact ⟨j + 1, N + m2, by omega, by go_num, by go_num, by omega, hh, hB⟩
      · go_wp2_with fail
        refine bodyPost_ret (results_tmp rfl _ _ _) rfl ?_
        exact ⟨decide ((N : Int) ≤ 360), rfl, hB⟩
end Go.Proofs.YtcfmenkigolnoaaGreatDoor

/- What two sets of numbers have in common. -/
namespace Go.Proofs.YtcfmenkigolnoaaGreatDoor
open Go.RowKit

def bothL (few many : List Int) : List Int := few.filter fun x => many.contains x
def andL (xs ys : List Int) : List Int := if ys.length < xs.length then bothL ys xs else bothL xs ys
theorem own_drewN {w : World} {base size n q : Nat} {e : TypeId} {v : Value} {xs : List Value} (h : w.ownsRow base e size v n xs) : (w.drewN q).ownsRow base e size v n xs := own_keep h fun _ _ => rfl
theorem bothL_len (a b : List Int) : (bothL a b).length ≤ a.length := List.length_filter_le _ _
set_option maxHeartbeats 6400000 in
set_option maxRecDepth 20000 in
theorem andAt (V U : Value) (xs ys : List Int) (W : World) (hx : IntsAt W V xs) (hy : IntsAt W U ys) (sx : xs.Pairwise (· ≤ ·)) (sy : ys.Pairwise (· ≤ ·)) (nx : xs.length ≤ 2097152) (ny : ys.length ≤ 2097152) :
    Calls Tryz.prog 62 #[V, U] W fun e w' => ∃ R, e = .returned R ∧ w'.ownsRow W.heap.size 2 1 R (andL xs ys).length ((andL xs ys).map (Value.int .i64)) ∧ Below W.heap.size W w' := by
  obtain ⟨p1, cap1, rfl, _⟩ := id hx
  obtain ⟨p2, cap2, rfl, _⟩ := id hy
  obtain ⟨i0, hi, hz0, hz1, hz2⟩ := info_parts zero_intE
  have HX := Lib.hid hx
  have HY := Lib.hid hy
  obtain ⟨n1, hl1⟩ : ∃ n, n = xs.length := ⟨_, rfl⟩
  obtain ⟨n2, hl2⟩ : ∃ n, n = ys.length := ⟨_, rfl⟩
  rw [← hl1] at nx
  rw [← hl2] at ny
  have HNX := Lib.hid hx
  have HMX := Lib.hid (fun W' (hb : Below W.heap.size W W') (x : Int) => hasIntAt _ xs x W' (hx.below hb) sx (by omega))
  have HMY := Lib.hid (fun W' (hb : Below W.heap.size W W') (x : Int) => hasIntAt _ ys x W' (hy.below hb) sy (by omega))
  rw [← hl1] at HMX
  rw [← hl2] at HMY
  rw [← hl1, ← hl2]
  have HL := Lib.hid (And.intro hl1 hl2)
  clear hx hy sx sy HNX hl1 hl2
  by_cases hlt : n2 < n1
  · have ea : andL xs ys = bothL ys xs := by unfold andL; rw [if_pos (by have := HL.out; omega)]
    rw [ea]
    have hgt : (n1 : Int) > n2 := by omega
    clear ea
    go_enter Tryz.func62, Tryz.ntmps62
    go_wp2_with fail
    go_loopg [7, 21] n2 (fun gg s7 s21 wr => ∃ j : Nat, j + gg = n2 ∧ s21 = .int .i64 j ∧ Hid (wr.ownsRow W.heap.size 2 1 s7 (bothL (ys.take j) xs).length ((bothL (ys.take j) xs).map (Value.int .i64)) ∧ Below W.heap.size W wr))
    case atStart => exact ⟨0, by omega, rfl, Lib.hid ⟨by simp [bothL]; exact World.ownsRow_nil _ _ _ _, Below.refl _ _⟩⟩
    case round =>
      obtain ⟨j, hjg, rfl, HA⟩ := hrel
      by_cases hj : (j : Int) < n2
      · have hj1 : j < ys.length := by have := HL.out; omega
        obtain ⟨pp, cc, e0, hcv⟩ := HY.out.below HA.out.2
        injection e0 with e1 e2 e3
        subst e1
        obtain ⟨g, off, rfl, hcj⟩ := hcv (by intro q; rw [q] at hj1; simp at hj1)
        obtain ⟨x, hxj⟩ : ∃ x, x = ys[j] := ⟨_, rfl⟩
        have cj : wr.cell? ⟨g, off + j, none⟩ = some (.int .i64 x) := by
          rw [hcj j hj1, hxj]
          simp [hj1]
        have etk : bothL (ys.take (j + 1)) xs = bothL (ys.take j) xs ++ (if xs.contains x then [x] else []) := by
          unfold bothL
          rw [List.take_succ_eq_append_getElem hj1, List.filter_append, ← hxj]
          by_cases q : xs.contains x = true
          · rw [if_pos q, List.filter_cons_of_pos q]; rfl
          · rw [if_neg q, List.filter_cons_of_neg q]; rfl
        have hlen : (bothL (ys.take j) xs).length ≤ 2097152 := by
          have := bothL_len (ys.take j) xs
          have := List.length_take_le j ys
          have := HL.out
          omega
        have HC := Lib.hid (HMX.out wr HA.out.2 x)
        obtain ⟨r, hr⟩ : ∃ r, r = xs.contains x := ⟨_, rfl⟩
        rw [← hr] at HC etk
        have HT := Lib.hid etk
        obtain ⟨l, hl⟩ : ∃ l, l = bothL (ys.take j) xs := ⟨_, rfl⟩
        rw [← hl] at HA HT hlen
        clear hcj hcv e2 e3 hxj hr etk hl
        cases r with
        | true =>
          go_wp2_with (first
            | (go_at_call 76; (with_reducible refine HC.out.mono ?_); rintro e w1 ⟨rfl, q, rfl⟩
               have ho : (wr.drewN q).ownsRow W.heap.size 2 1 _ l.length (l.map (Value.int .i64)) := own_drewN HA.out.1
               have hb : Below W.heap.size W (wr.drewN q) := below_drewN HA.out.2 q
               generalize wr.drewN q = w1 at *)
            | (at_builtin; refine wpList_append_own_at _ rfl _ _ 77 rfl W.heap.size 2 i0 (.int .i64 0) 1 8 Tryz.underlying77 hi hz0 hz1 hz2 rfl (by decide) _ _ _ rfl (ho.alloc _) ⟨w1.heap.size, 0, none⟩ 1 1 [.int .i64 x] rfl rfl (cells_new w1 [.int .i64 x] 2) (by simp [Value.oneCell']) ?_ ?_ ?_ ?_))
          all_goals (try (first | (unfold maxLen; omega) | omega | (simp; have := hb.size; omega)))
          intro v' w5 ho5 hg5 _ hloc5
          have hb5 : Below W.heap.size W w5 := (hb.alloc hb.size _).grown hg5 (by have := hb.size; simp; omega) (fun j e => (ho.lt j e).1)
          have HB := Lib.hid (show w5.ownsRow W.heap.size 2 1 v' (l ++ [x]).length ((l ++ [x]).map (Value.int .i64)) by rw [List.length_append, List.map_append]; exact ho5)
          clear ho5 hg5 hloc5 ho hb
          go_wp2_with fail
          go_roundg (gk - 1)
          case measure => omega
          case rel => exact ⟨j + 1, by omega, by go_num, Lib.hid (by rw [HT.out, if_pos (by trivial)]; exact ⟨HB.out, hb5⟩)⟩
        | false =>
          go_wp2_with (first
            | (go_at_call 76; (with_reducible refine HC.out.mono ?_); rintro e w1 ⟨rfl, q, rfl⟩
               have ho : (wr.drewN q).ownsRow W.heap.size 2 1 _ l.length (l.map (Value.int .i64)) := own_drewN HA.out.1
               have hb : Below W.heap.size W (wr.drewN q) := below_drewN HA.out.2 q
               generalize wr.drewN q = w1 at *))
          go_roundg (gk - 1)
          case measure => omega
          case rel => exact ⟨j + 1, by omega, by go_num, Lib.hid (by rw [HT.out, if_neg (by simp), List.append_nil]; exact ⟨ho, hb⟩)⟩
      · have e : ys.take j = ys := by rw [List.take_of_length_le]; have := HL.out; omega
        have hA := HA.out
        rw [e] at hA
        have HZ := Lib.hid hA
        clear hA HA e
        go_wp2_with fail
        go_ret
        exact ⟨_, rfl, HZ.out⟩
  · have ea : andL xs ys = bothL xs ys := by unfold andL; rw [if_neg (by have := HL.out; omega)]
    rw [ea]
    have hgt : ¬ (n1 : Int) > n2 := by omega
    clear ea
    go_enter Tryz.func62, Tryz.ntmps62
    go_wp2_with fail
    go_loopg [7, 21] n1 (fun gg s7 s21 wr => ∃ j : Nat, j + gg = n1 ∧ s21 = .int .i64 j ∧ Hid (wr.ownsRow W.heap.size 2 1 s7 (bothL (xs.take j) ys).length ((bothL (xs.take j) ys).map (Value.int .i64)) ∧ Below W.heap.size W wr))
    case atStart => exact ⟨0, by omega, rfl, Lib.hid ⟨by simp [bothL]; exact World.ownsRow_nil _ _ _ _, Below.refl _ _⟩⟩
    case round =>
      obtain ⟨j, hjg, rfl, HA⟩ := hrel
      by_cases hj : (j : Int) < n1
      · have hj1 : j < xs.length := by have := HL.out; omega
        obtain ⟨pp, cc, e0, hcv⟩ := HX.out.below HA.out.2
        injection e0 with e1 e2 e3
        subst e1
        obtain ⟨g, off, rfl, hcj⟩ := hcv (by intro q; rw [q] at hj1; simp at hj1)
        obtain ⟨x, hxj⟩ : ∃ x, x = xs[j] := ⟨_, rfl⟩
        have cj : wr.cell? ⟨g, off + j, none⟩ = some (.int .i64 x) := by
          rw [hcj j hj1, hxj]
          simp [hj1]
        have etk : bothL (xs.take (j + 1)) ys = bothL (xs.take j) ys ++ (if ys.contains x then [x] else []) := by
          unfold bothL
          rw [List.take_succ_eq_append_getElem hj1, List.filter_append, ← hxj]
          by_cases q : ys.contains x = true
          · rw [if_pos q, List.filter_cons_of_pos q]; rfl
          · rw [if_neg q, List.filter_cons_of_neg q]; rfl
        have hlen : (bothL (xs.take j) ys).length ≤ 2097152 := by
          have := bothL_len (xs.take j) ys
          have := List.length_take_le j xs
          have := HL.out
          omega
        have HC := Lib.hid (HMY.out wr HA.out.2 x)
        obtain ⟨r, hr⟩ : ∃ r, r = ys.contains x := ⟨_, rfl⟩
        rw [← hr] at HC etk
        have HT := Lib.hid etk
        obtain ⟨l, hl⟩ : ∃ l, l = bothL (xs.take j) ys := ⟨_, rfl⟩
        rw [← hl] at HA HT hlen
        clear hcj hcv e2 e3 hxj hr etk hl
        cases r with
        | true =>
          go_wp2_with (first
            | (go_at_call 76; (with_reducible refine HC.out.mono ?_); rintro e w1 ⟨rfl, q, rfl⟩
               have ho : (wr.drewN q).ownsRow W.heap.size 2 1 _ l.length (l.map (Value.int .i64)) := own_drewN HA.out.1
               have hb : Below W.heap.size W (wr.drewN q) := below_drewN HA.out.2 q
               generalize wr.drewN q = w1 at *)
            | (at_builtin; refine wpList_append_own_at _ rfl _ _ 77 rfl W.heap.size 2 i0 (.int .i64 0) 1 8 Tryz.underlying77 hi hz0 hz1 hz2 rfl (by decide) _ _ _ rfl (ho.alloc _) ⟨w1.heap.size, 0, none⟩ 1 1 [.int .i64 x] rfl rfl (cells_new w1 [.int .i64 x] 2) (by simp [Value.oneCell']) ?_ ?_ ?_ ?_))
          all_goals (try (first | (unfold maxLen; omega) | omega | (simp; have := hb.size; omega)))
          intro v' w5 ho5 hg5 _ hloc5
          have hb5 : Below W.heap.size W w5 := (hb.alloc hb.size _).grown hg5 (by have := hb.size; simp; omega) (fun j e => (ho.lt j e).1)
          have HB := Lib.hid (show w5.ownsRow W.heap.size 2 1 v' (l ++ [x]).length ((l ++ [x]).map (Value.int .i64)) by rw [List.length_append, List.map_append]; exact ho5)
          clear ho5 hg5 hloc5 ho hb
          go_wp2_with fail
          go_roundg (gk - 1)
          case measure => omega
          case rel => exact ⟨j + 1, by omega, by go_num, Lib.hid (by rw [HT.out, if_pos (by trivial)]; exact ⟨HB.out, hb5⟩)⟩
        | false =>
          go_wp2_with (first
            | (go_at_call 76; (with_reducible refine HC.out.mono ?_); rintro e w1 ⟨rfl, q, rfl⟩
               have ho : (wr.drewN q).ownsRow W.heap.size 2 1 _ l.length (l.map (Value.int .i64)) := own_drewN HA.out.1
               have hb : Below W.heap.size W (wr.drewN q) := below_drewN HA.out.2 q
               generalize wr.drewN q = w1 at *))
          go_roundg (gk - 1)
          case measure => omega
          case rel => exact ⟨j + 1, by omega, by go_num, Lib.hid (by rw [HT.out, if_neg (by simp), List.append_nil]; exact ⟨ho, hb⟩)⟩
      · have e : xs.take j = xs := by rw [List.take_of_length_le]; have := HL.out; omega
        have hA := HA.out
        rw [e] at hA
        have HZ := Lib.hid hA
        clear hA HA e
        go_wp2_with fail
        go_ret
        exact ⟨_, rfl, HZ.out⟩
end Go.Proofs.YtcfmenkigolnoaaGreatDoor

/- Labeled: its parts: a set copied (63); what stands behind a label; what two sets have in common, where both are of one row's. -/
namespace Go.Proofs.YtcfmenkigolnoaaGreatDoor
open Go.RowKit

theorem cloneSetAt (v : Value) (zs : List Int) (w : World) (h : IntsAt w v zs) (hn : zs.length ≤ 2097152) :
    Calls Tryz.prog 63 #[v] w fun e w' => ∃ v', e = .returned v' ∧ w'.ownsRow w.heap.size 2 1 v' zs.length (zs.map (Value.int .i64)) ∧ Below w.heap.size w w' := by
  obtain ⟨p, cap, rfl, h⟩ := h
  cases p with
  | none =>
    have : zs = [] := by
      cases zs with
      | nil => rfl
      | cons z l => obtain ⟨g, off, e, _⟩ := h (by simp); cases e
    subst this
    refine (AnyG.slices_Clone_int_nil Tryz.cloneJ 0 cap w).mono ?_
    rintro e w' ⟨rfl, rfl⟩
    exact ⟨_, rfl, World.ownsRow_nil _ _ _ _, Below.refl _ _⟩
  | some a =>
    by_cases h0 : zs = []
    · subst h0
      refine (AnyG.slices_Clone_int_zero Tryz.cloneJ a cap w).mono ?_
      rintro e w' ⟨v', rfl, ho, _, hb⟩
      exact ⟨v', rfl, ho, hb⟩
    · obtain ⟨g, off, e, hc⟩ := h h0
      cases e
      refine (AnyG.slices_Clone_int Tryz.cloneJ g off zs.length cap zs w (Nat.le_refl _) (by omega) hc).mono ?_
      rintro e w' ⟨v', rfl, ho, _, hb⟩
      rw [List.take_length] at ho
      exact ⟨v', rfl, ho, hb⟩
theorem grp_append {κ : Type} [DecidableEq κ] (E F : List (κ × Int)) (x : κ) : grp (E ++ F) x = grp E x ++ grp F x := by
  unfold grp
  rw [List.filter_append, List.map_append]
theorem grp_flat {κ : Type} [DecidableEq κ] (f : Int → List (κ × Int)) (x : κ) : (nums : List Int) → grp (nums.flatMap f) x = nums.flatMap fun i => grp (f i) x
  | [] => rfl
  | i :: l => by rw [List.flatMap_cons, List.flatMap_cons, grp_append, grp_flat f x l]
theorem flat_if (p : Int → Bool) : (nums : List Int) → (nums.flatMap fun i => if p i = true then [i] else []) = nums.filter p
  | [] => rfl
  | i :: l => by
    rw [List.flatMap_cons, flat_if p l]
    by_cases h : p i = true
    · rw [if_pos h, List.filter_cons_of_pos h]; rfl
    · rw [if_neg h, List.filter_cons_of_neg h]; rfl
/-- Has the node with this number this label? -/
def hasLbl (l : List NodeL) (t : ByteArray) (i : Int) : Bool := decide (bl t ∈ (labelsOf l i).map bl)
theorem grp_one (i : Int) (x : List UInt8) : (L : List (List UInt8)) → L.Nodup → grp (L.map fun t => (t, i)) x = if decide (x ∈ L) = true then [i] else []
  | [], _ => by simp [grp]
  | a :: L, h => by
    rw [List.nodup_cons] at h
    have ih := grp_one i x L h.2
    rw [List.map_cons, show ((a, i) :: L.map fun t => (t, i)) = [(a, i)] ++ L.map (fun t => (t, i)) from rfl, grp_append, ih]
    by_cases e : a = x
    · subst e
      have : decide (a ∈ L) = false := decide_eq_false h.1
      simp [grp, this]
    · have e2 : ¬ x = a := fun q => e q.symm
      simp [grp, e, e2]
theorem grp_label (l : List NodeL) (nums : List Int) (t : ByteArray) (h : ∀ i ∈ nums, ((labelsOf l i).map bl).Nodup) : grp (nums.flatMap (evN l)) (bl t) = nums.filter (hasLbl l t) := by
  rw [grp_flat, ← flat_if]
  have : ∀ i ∈ nums, grp (evN l i) (bl t) = if hasLbl l t i = true then [i] else [] := fun i hi => by
    have q := grp_one i (bl t) ((labelsOf l i).map bl) (h i hi)
    rw [List.map_map] at q
    exact q
  induction nums with
  | nil => rfl
  | cons i r ih =>
    rw [List.flatMap_cons, List.flatMap_cons, this i (by simp), ih (fun j hj => h j (by simp [hj])) (fun j hj => this j (by simp [hj]))]
theorem bothL_filter (nums : List Int) (p q : Int → Bool) : bothL (nums.filter p) (nums.filter q) = nums.filter fun i => p i && q i := by
  unfold bothL
  rw [List.filter_filter]
  refine List.filter_congr fun x hx => ?_
  have : (nums.filter q).contains x = q x := by
    cases h : q x with
    | true => simp [hx, h]
    | false => simp [h]
  rw [this, Bool.and_comm]
theorem andL_filter (nums : List Int) (p q : Int → Bool) : andL (nums.filter p) (nums.filter q) = nums.filter fun i => p i && q i := by
  unfold andL
  split
  · rw [bothL_filter]
    exact List.filter_congr fun x _ => Bool.and_comm _ _
  · exact bothL_filter nums p q
theorem labels_nodup {l : List NodeL} {a : NodeL} (hd : (l.map NodeL.id).Nodup) (ha : a ∈ l) (h : (a.labels.map bl).Nodup) : ((labelsOf l a.id).map bl).Nodup := by
  rw [labelsOf_eq hd ha]
  have e : (sortS a.labels).map bl = (a.labels.map bl).mergeSort leB := by
    unfold sortS
    rw [List.map_map]
    exact (List.map_congr_left fun x _ => bl_ofL x).trans (List.map_id _)
  rw [e]
  exact (List.mergeSort_perm _ _).nodup_iff.2 h
end Go.Proofs.YtcfmenkigolnoaaGreatDoor

/- Labeled: the numbers of the nodes that have all of these labels. -/
namespace Go.Proofs.YtcfmenkigolnoaaGreatDoor
open Go.RowKit

theorem zero77 (w : World) : (zeroValue 77).run Tryz.prog w = .ok (.slice none 0 0) w := by kernel_rfl
def numsN (g : GraphL) : List Int := (g.nodes.map NodeL.id).mergeSort leI
/-- What Labeled tells. -/
def labeledL (g : GraphL) (ls : List ByteArray) : List Int := (numsN g).filter fun i => ls.all fun t => hasLbl g.nodes t i
theorem numsN_sorted (g : GraphL) : (numsN g).Pairwise (· ≤ ·) := by
  have := List.pairwise_mergeSort (le := leI) leI_tr leI_to (g.nodes.map NodeL.id)
  exact this.imp fun h => by simpa [leI] using h
theorem numsN_len (g : GraphL) : (numsN g).length = g.nodes.length := by unfold numsN; rw [List.length_mergeSort, List.length_map]
theorem filter_le (l : List Int) (p : Int → Bool) (n : Nat) (h : l.length ≤ n) : (l.filter p).length ≤ n := Nat.le_trans (List.length_filter_le _ _) h
theorem labeledL_set (g : GraphL) (ls : List ByteArray) : labeledL g (setS ls) = labeledL g ls := by
  unfold labeledL
  refine List.filter_congr fun i _ => ?_
  rw [Bool.eq_iff_iff]
  simp only [List.all_eq_true, setS_mem]
theorem all_take (p : ByteArray → Bool) (L : List ByteArray) (j : Nat) (hj : j < L.length) : (L.take (j + 1)).all p = ((L.take j).all p && p L[j]) := by
  rw [List.take_succ_eq_append_getElem hj, List.all_append]
  simp
set_option maxHeartbeats 6400000 in
set_option maxRecDepth 20000 in
theorem labeledAt (W : World) (s : Nat) (g : GraphL) (h : StoreE W s g) (hd : (g.nodes.map NodeL.id).Nodup) (hl : ∀ a ∈ g.nodes, (a.labels.map bl).Nodup) (hn : g.nodes.length ≤ 131072) (v : Value) (ls : List ByteArray) (hv : StrsAt W v ls) (hls : ls.length ≤ 2097152) (ht : ∀ t ∈ ls, t.size ≤ 2097152) :
    Calls Tryz.prog 31 #[.pointer (some ⟨s, 0, none⟩), v] W fun e w' => ∃ R, e = .returned R ∧ w'.ownsRow W.heap.size 2 1 R (labeledL g ls).length ((labeledL g ls).map (Value.int .i64)) ∧ Below W.heap.size W w' := by
  have hI : ∀ i ∈ numsN g, ((labelsOf g.nodes i).map bl).Nodup := fun i hi => by
    obtain ⟨a, ha, rfl⟩ := List.mem_map.1 (List.mem_mergeSort.1 hi)
    exact labels_nodup hd ha (hl a ha)
  obtain ⟨nums, hnums⟩ : ∃ nums, nums = numsN g := ⟨_, rfl⟩
  have hnl : nums.length ≤ 131072 := by rw [hnums, numsN_len]; exact hn
  have hns : nums.Pairwise (· ≤ ·) := by rw [hnums]; exact numsN_sorted g
  have hS := setStrsAt v ls W hv hls
  obtain ⟨L, hL⟩ : ∃ L, L = setS ls := ⟨_, rfl⟩
  rw [← hL] at hS
  have hLz : L.length ≤ 2097152 := by rw [hL]; unfold setS; rw [List.length_map]; exact Nat.le_trans (setL_sub _) (by rw [List.length_map]; exact hls)
  have hLt : ∀ t ∈ L, t.size ≤ 2097152 := fun t q => ht t ((setS_mem ls t).1 (by rw [← hL]; exact q))
  rw [← labeledL_set, ← hL]
  have eL : labeledL g L = nums.filter fun i => L.all fun t => hasLbl g.nodes t i := by rw [hnums]; rfl
  rw [eL]
  rw [← hnums] at hI
  have HST := Lib.hid h
  have HI := Lib.hid hI
  have HS := Lib.hid hS
  have HLT := Lib.hid hLt
  have HNS := Lib.hid hns
  obtain ⟨m0, m1, m4, m5, V2, V3, q0, _, _, q3, _, _, _⟩ := h.is
  have iv := ints_of_own q3
  have e2 : (g.nodes.map NodeL.id).mergeSort leI = nums := hnums.symm
  rw [e2] at iv
  have c2 := cell_of q0 2 rfl
  have HIV := Lib.hid iv
  have HNU := Lib.hid hnums
  clear hd hl hn hv hls ht hI hS hLt hns eL hL iv q3 h e2 hnums
  go_enter Tryz.func31, Tryz.ntmps31
  go_wp2_with (first
    | (go_at_call 53; (with_reducible refine HS.out.mono ?_); rintro e w1 ⟨V, rfl, hV, hb1⟩
       obtain ⟨pV, cV, rfl⟩ := own_slice hV))
  obtain ⟨m, hm⟩ : ∃ m, m = L.length := ⟨_, rfl⟩
  have hT := strs_of_own hV
  rw [← hm] at hT ⊢
  have HT := Lib.hid hT
  have HM := Lib.hid hm
  have HB1 := Lib.hid hb1
  have hmz : m ≤ 2097152 := by omega
  clear hV hT hm hb1 c2 q0
  go_loopg [5, 15] m (fun gg s5 s15 wr => ∃ j : Nat, j + gg = m ∧ s15 = .int .i64 j ∧ Hid (IntsAt wr s5 (nums.filter fun i => (L.take j).all fun t => hasLbl g.nodes t i) ∧ Below w1.heap.size w1 wr))
  case atStart => exact ⟨0, by omega, rfl, Lib.hid ⟨by have q := HIV.out.below HB1.out; rwa [show (nums.filter fun i => (L.take 0).all fun t => hasLbl g.nodes t i) = nums from List.filter_eq_self.2 (by simp)], Below.refl _ _⟩⟩
  case round =>
    obtain ⟨j, hjg, rfl, HA⟩ := hrel
    by_cases hj : (j : Int) < m
    · have hj1 : j < L.length := by have := HM.out; omega
      obtain ⟨pp, cc, e0, hcv⟩ := HT.out.below HA.out.2
      injection e0 with e1 e2 e3
      subst e1
      obtain ⟨g2, off, rfl, hcj⟩ := hcv (by intro q; rw [q] at hj1; simp at hj1)
      obtain ⟨t, htj⟩ : ∃ t, t = L[j] := ⟨_, rfl⟩
      have cj : wr.cell? ⟨g2, off + j, none⟩ = some (.string t) := by
        have := hcj j (by simpa using hj1)
        rw [this, htj]
        simp [hj1, bl]
      have htz := HLT.out t (by rw [htj]; exact List.getElem_mem hj1)
      have st := HST.out.below (below_any HB1.out HA.out.2 HB1.out.size)
      obtain ⟨k0, k1, k4, k5, U2, U3, r0, _, _, _, _, r5, _⟩ := st.is
      have c4 := cell_of r0 4 rfl
      obtain ⟨nn, ff, hnn, hmap, h3, _⟩ := r5
      have hkey : keyOf Tryz.prog 9 (.string t) = some (.string (bl t)) := Go.WideMaps.keyOf_string_mk Tryz.underlying9 (by unfold maxLen; omega)
      have hrow := ints_of_own (groups_row h3 (bl t))
      have e4 : (g.nodes.map NodeL.id).mergeSort leI = nums := HNU.out.symm
      rw [e4, grp_label g.nodes nums t HI.out] at hrow
      have HC := Lib.hid (andAt _ _ _ _ wr HA.out.1 hrow (HNS.out.filter _) (HNS.out.filter _) (filter_le _ _ _ (by omega)) (filter_le _ _ _ (by omega)))
      rw [andL_filter] at HC
      have etk : (nums.filter fun i => ((L.take j).all fun t => hasLbl g.nodes t i) && hasLbl g.nodes t i) = nums.filter fun i => (L.take (j + 1)).all fun t => hasLbl g.nodes t i := by
        refine List.filter_congr fun i _ => ?_
        rw [all_take _ L j hj1, htj]
      rw [etk] at HC
      obtain ⟨v0, hv0⟩ : ∃ v0, v0 = (ff (.string (bl t))).getD (.slice none 0 0) := ⟨_, rfl⟩
      rw [← hv0] at HC
      have HV0 := Lib.hid hv0
      clear hv0
      clear hcj hcv e2 e3 htj etk hrow h3 hnn st htz e4
      go_wp2_with (first
        | (at_lookup; refine wpList_look_held rfl _ _ 75 rfl 9 77 law9 Tryz.underlying75 (zero77 _) k4 nn rfl hmap _ (.string (bl t)) rfl hkey trivial ?_; rw [← HV0.out])
        | (go_at_call 62; (with_reducible refine HC.out.mono ?_); rintro e w3 ⟨R, rfl, hR, hb3⟩))
      have hAN := Lib.hid (And.intro (ints_of_own hR) (below_any HA.out.2 hb3 HA.out.2.size))
      go_roundg (gk - 1)
      case measure => omega
      case rel => exact ⟨j + 1, by omega, by go_num, hAN⟩
    · have e : L.take j = L := by rw [List.take_of_length_le]; have := HM.out; omega
      have hA := HA.out
      rw [e] at hA
      have HC := Lib.hid (cloneSetAt _ _ wr hA.1 (filter_le _ _ _ (by omega)))
      have HB := Lib.hid (below_any HB1.out hA.2 HB1.out.size)
      clear hA HA e
      go_wp2_with (first
        | (go_at_call 63; (with_reducible refine HC.out.mono ?_); rintro e w3 ⟨R, rfl, hR, hb3⟩))
      go_ret
      exact ⟨_, rfl, own_base hR HB.out.size, below_any HB.out hb3 HB.out.size⟩
end Go.Proofs.YtcfmenkigolnoaaGreatDoor

/- EqNums: are two rows of numbers the same? -/
namespace Go.Proofs.YtcfmenkigolnoaaGreatDoor
open Go.RowKit

set_option maxHeartbeats 3200000 in
set_option maxRecDepth 20000 in
theorem eqNumsAt (V U : Value) (xs ys : List Int) (W : World) (hx : IntsAt W V xs) (hy : IntsAt W U ys) (hn : xs.length ≤ 2097152) :
    Calls Tryz.prog 24 #[V, U] W fun e w' => e = .returned (.bool (decide (xs = ys))) ∧ Below W.heap.size W w' := by
  obtain ⟨p1, c1, rfl, hc1⟩ := hx
  obtain ⟨p2, c2, rfl, hc2⟩ := hy
  obtain ⟨n, hl1⟩ : ∃ n, n = xs.length := ⟨_, rfl⟩
  obtain ⟨m, hl2⟩ : ∃ m, m = ys.length := ⟨_, rfl⟩
  obtain ⟨r, hr⟩ : ∃ r, r = decide (xs = ys) := ⟨_, rfl⟩
  rw [← hr, ← hl1, ← hl2]
  rw [← hl1] at hn
  have HC1 := Lib.hid hc1
  have HC2 := Lib.hid hc2
  have HR := Lib.hid hr
  have HL := Lib.hid (And.intro hl1 hl2)
  clear hc1 hc2 hr hl1 hl2
  by_cases e : n = m
  · subst e
    go_enter Tryz.func24, Tryz.ntmps24
    go_wp2_with fail
    go_loopg [5] n (fun gg s5 wr => ∃ j : Nat, j + gg = n ∧ s5 = .int .i64 j ∧ Hid ((∀ (t : Nat) (h1 : t < xs.length) (h2 : t < ys.length), t < j → xs[t] = ys[t]) ∧ wr.heap = W.heap ∧ Below W.heap.size W wr))
    case atStart => exact ⟨0, by omega, rfl, Lib.hid ⟨fun t _ _ h => by omega, rfl, Below.refl _ _⟩⟩
    case round =>
      obtain ⟨j, hjg, rfl, HA⟩ := hrel
      by_cases hj : (j : Int) < n
      · have hj1 : j < xs.length := by have := HL.out; omega
        have hj2 : j < ys.length := by have := HL.out; omega
        obtain ⟨g1, o1, rfl, hcj1⟩ := HC1.out (by intro q; rw [q] at hj1; simp at hj1)
        obtain ⟨g2, o2, rfl, hcj2⟩ := HC2.out (by intro q; rw [q] at hj2; simp at hj2)
        obtain ⟨x, hxj⟩ : ∃ x, x = xs[j] := ⟨_, rfl⟩
        obtain ⟨y, hyj⟩ : ∃ y, y = ys[j] := ⟨_, rfl⟩
        have C1 : ∀ W' : World, W'.heap = W.heap → W'.cell? ⟨g1, o1 + j, none⟩ = some (.int .i64 x) := fun W' h => by
          have q := hcj1 j hj1
          unfold World.cell? at q ⊢
          rw [h, q, hxj]
          simp [hj1]
        have C2 : ∀ W' : World, W'.heap = W.heap → W'.cell? ⟨g2, o2 + j, none⟩ = some (.int .i64 y) := fun W' h => by
          have q := hcj2 j hj2
          unfold World.cell? at q ⊢
          rw [h, q, hyj]
          simp [hj2]
        have hh := HA.out.2.1
        have HXY := Lib.hid (And.intro hxj hyj)
        clear hcj1 hcj2 hxj hyj
        go_upto_region 6 with fail
        refine wp_region_held_drew (S := fun W' => W'.heap = W.heap) (by kernel_rfl) hh (fun _ => ?_)
        refine wpAnyH_take (i := 0) (v := .slice (some ⟨g1, o1, none⟩) n c1) rfl (by kernel_rfl) (by kernel_rfl) (by kernel_rfl) (fun _ _ _ h => h) (Or.inl ⟨by rfl, fun W _ => by go_simp⟩) (hh) ?_
        try simp only [Act.put, List.getElem_toArray, List.getElem_cons_succ, List.getElem_cons_zero, List.setIfInBounds_toArray, List.set_cons_zero, List.set_cons_succ]
        refine wpAnyH_take (i := 1) (v := .int .i64 (j : Int)) rfl (by kernel_rfl) (by kernel_rfl) (by kernel_rfl) (fun _ _ _ h => h) (Or.inl ⟨by rfl, fun W _ => by go_simp⟩) (hh) ?_
        try simp only [Act.put, List.getElem_toArray, List.getElem_cons_succ, List.getElem_cons_zero, List.setIfInBounds_toArray, List.set_cons_zero, List.set_cons_succ]
        refine wpAnyH_take (i := 4) (v := .slice (some ⟨g2, o2, none⟩) n c2) rfl (by kernel_rfl) (by kernel_rfl) (by kernel_rfl) (fun _ _ _ h => h) (Or.inl ⟨by rfl, fun W _ => by go_simp⟩) (hh) ?_
        try simp only [Act.put, List.getElem_toArray, List.getElem_cons_succ, List.getElem_cons_zero, List.setIfInBounds_toArray, List.set_cons_zero, List.set_cons_succ]
        refine wpAnyH_take (i := 5) (v := .int .i64 (j : Int)) rfl (by kernel_rfl) (by kernel_rfl) (by kernel_rfl) (fun _ _ _ h => h) (Or.inl ⟨by rfl, fun W _ => by go_simp⟩) (hh) ?_
        try simp only [Act.put, List.getElem_toArray, List.getElem_cons_succ, List.getElem_cons_zero, List.setIfInBounds_toArray, List.set_cons_zero, List.set_cons_succ]
        refine wpAnyH_take (i := 2) (v := .pointer (some ⟨g1, o1 + j, none⟩)) rfl (by kernel_rfl) (by kernel_rfl) (by kernel_rfl) (fun _ _ _ h => h) (Or.inl ⟨by rfl, fun W _ => by go_simp⟩) (hh) ?_
        try simp only [Act.put, List.getElem_toArray, List.getElem_cons_succ, List.getElem_cons_zero, List.setIfInBounds_toArray, List.set_cons_zero, List.set_cons_succ]
        refine wpAnyH_take (i := 6) (v := .pointer (some ⟨g2, o2 + j, none⟩)) rfl (by kernel_rfl) (by kernel_rfl) (by kernel_rfl) (fun _ _ _ h => h) (Or.inl ⟨by rfl, fun W _ => by go_simp⟩) (hh) ?_
        try simp only [Act.put, List.getElem_toArray, List.getElem_cons_succ, List.getElem_cons_zero, List.setIfInBounds_toArray, List.set_cons_zero, List.set_cons_succ]
        refine wpAnyH_take (i := 3) (v := .int .i64 x) rfl (by kernel_rfl) (by kernel_rfl) (by kernel_rfl) (fun _ _ _ h => h) (Or.inl ⟨by rfl, fun W' h => by have q := C1 W' h; go_simp⟩) (hh) ?_
        try simp only [Act.put, List.getElem_toArray, List.getElem_cons_succ, List.getElem_cons_zero, List.setIfInBounds_toArray, List.set_cons_zero, List.set_cons_succ]
        refine wpAnyH_take (i := 7) (v := .int .i64 y) rfl (by kernel_rfl) (by kernel_rfl) (by kernel_rfl) (fun _ _ _ h => h) (Or.inl ⟨by rfl, fun W' h => by have q := C2 W' h; go_simp⟩) (hh) ?_
        try simp only [Act.put, List.getElem_toArray, List.getElem_cons_succ, List.getElem_cons_zero, List.setIfInBounds_toArray, List.set_cons_zero, List.set_cons_succ]
        refine wpAnyH_take (i := 8) (v := .bool (x != y)) rfl (by kernel_rfl) (by kernel_rfl) (by kernel_rfl) (fun _ _ _ h => h) (Or.inl ⟨by rfl, fun W _ => by go_simp; try rfl⟩) (hh) ?_
        try simp only [Act.put, List.getElem_toArray, List.getElem_cons_succ, List.getElem_cons_zero, List.setIfInBounds_toArray, List.set_cons_zero, List.set_cons_succ]
        refine wpAnyH_done (by kernel_rfl) ?_ _
        by_cases q : x = y
        · have q2 : (x != y) = false := by simpa using q
          rw [q2]
          have HZ : Hid ((∀ (t : Nat) (h1 : t < xs.length) (h2 : t < ys.length), t < j + 1 → xs[t] = ys[t]) ∧ wr.drew.heap = W.heap ∧ Below W.heap.size W wr.drew) := Lib.hid ⟨fun t h1 h2 h => by
            by_cases e : t = j
            · subst e
              rw [← HXY.out.1, ← HXY.out.2]
              exact q
            · exact HA.out.1 t h1 h2 (by omega), hh, HA.out.2.2.drew⟩
          clear q q2 hh C1 C2
          go_wp2_with fail
          go_roundg (gk - 1)
          case measure => omega
          case rel => exact ⟨j + 1, by omega, by go_num, HZ⟩
        · have q2 : (x != y) = true := by simpa using q
          rw [q2]
          have hf : Hid (r = false) := Lib.hid <| by
            rw [HR.out]
            refine decide_eq_false fun e => q ?_
            rw [HXY.out.1, HXY.out.2]
            subst e
            rfl
          have HB := Lib.hid (HA.out.2.2.drew)
          clear q q2 hh C1 C2
          go_wp2_with fail
          go_ret
          exact ⟨by rw [hf.out]; rfl, HB.out⟩
      · have ht : Hid (r = true) := Lib.hid <| by
          rw [HR.out]
          refine decide_eq_true ?_
          have := HL.out
          exact List.ext_getElem (by omega) fun t h1 h2 => HA.out.1 t h1 h2 (by omega)
        go_wp2_with fail
        go_ret
        exact ⟨by rw [ht.out]; rfl, HA.out.2.2⟩
  · have hf : Hid (r = false) := Lib.hid <| by
      rw [HR.out]
      refine decide_eq_false fun q => e ?_
      have := HL.out
      rw [this.1, this.2, q]
    have e3 : ¬ (n : Int) = m := by omega
    go_enter Tryz.func24, Tryz.ntmps24
    go_wp2_with fail
    go_ret
    exact ⟨by rw [hf.out]; rfl, Below.refl _ _⟩
end Go.Proofs.YtcfmenkigolnoaaGreatDoor

/- What stands behind a way. -/
namespace Go.Proofs.YtcfmenkigolnoaaGreatDoor
open Go.RowKit

theorem grp_once {κ : Type} [DecidableEq κ] (i : Int) (x : κ) : (L : List κ) → L.Nodup → grp (L.map fun t => (t, i)) x = if decide (x ∈ L) = true then [i] else []
  | [], _ => by simp [grp]
  | a :: L, h => by
    rw [List.nodup_cons] at h
    have ih := grp_once i x L h.2
    rw [List.map_cons, show ((a, i) :: L.map fun t => (t, i)) = [(a, i)] ++ L.map (fun t => (t, i)) from rfl, grp_append, ih]
    by_cases e : a = x
    · subst e
      have : decide (a ∈ L) = false := decide_eq_false h.1
      simp [grp, this]
    · have e2 : ¬ x = a := fun q => e q.symm
      simp [grp, e, e2]
theorem waysL_nodup (s d : Int) : (waysL s d).Nodup := by
  unfold waysL
  by_cases h : d = s
  · subst h
    simp
  · have h2 : ¬ s = d := fun q => h q.symm
    simp [h, h2]
theorem ways_nodup {s d : Int} (h1 : (Lit.int .i64 s).wf = true) (h2 : (Lit.int .i64 d).wf = true) : ((waysL s d).map mkW).Nodup := by
  have e : ((waysL s d).map mkW).map Subtype.val = waysL s d := by
    rw [List.map_map]
    exact (List.map_congr_left fun p hp => mkW_eq (waysL_wf h1 h2 p hp)).trans (List.map_id _)
  have q := waysL_nodup s d
  rw [← e] at q
  exact List.Pairwise.of_map Subtype.val (fun a b h r => h (by rw [r])) q
/-- Does the edge with this number go this way? -/
def hasWay (l : List EdgeL) (w : Way) (i : Int) : Bool := decide (w ∈ (edgeWays l i).map mkW)
theorem grp_way (l : List EdgeL) (nums : List Int) (w : Way) (h : ∀ i ∈ nums, ((edgeWays l i).map mkW).Nodup) : grp (nums.flatMap (evE l)) w = nums.filter (hasWay l w) := by
  rw [grp_flat, ← flat_if]
  have : ∀ i ∈ nums, grp (evE l i) w = if hasWay l w i = true then [i] else [] := fun i hi => by
    have q := grp_once i w ((edgeWays l i).map mkW) (h i hi)
    rw [List.map_map] at q
    unfold evE hasWay
    exact q.trans (by congr)
  induction nums with
  | nil => rfl
  | cons i r ih =>
    rw [List.flatMap_cons, List.flatMap_cons, this i (by simp), ih (fun j hj => h j (by simp [hj])) (fun j hj => this j (by simp [hj]))]
theorem edgeWays_nodup {l : List EdgeL} (hd : (l.map EdgeL.id).Nodup) {a : EdgeL} (ha : a ∈ l) (h1 : (Lit.int .i64 a.src).wf = true) (h2 : (Lit.int .i64 a.dst).wf = true) : ((edgeWays l a.id).map mkW).Nodup := by
  rw [edgeWays_eq hd ha]
  exact ways_nodup h1 h2
end Go.Proofs.YtcfmenkigolnoaaGreatDoor
