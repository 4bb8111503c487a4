/- Texts of one kind, one behind the other: each says ahead of itself what it shows. -/
import Derived.Test.YtcfmenkigolnoaaGreatDoorTap
/- Labeled: the numbers of the nodes that have all of these labels. -/
namespace Go.Proofs.YtcfmenkigolnoaaGreatDoor
open Go.RowKit

theorem zero77 (w : World) : (zeroValue 77).run Tryz.prog w = .ok (.slice none 0 0) w := by kernel_rfl
def numsN (g : GraphL) : List Int := (g.nodes.map NodeL.id).mergeSort leI
/-- What Labeled tells. -/
def labeledL (g : GraphL) (ls : List ByteArray) : List Int := (numsN g).filter fun i => ls.all fun t => hasLbl g.nodes t i
theorem numsN_sorted (g : GraphL) : (numsN g).Pairwise (· ≤ ·) := by
  have := List.pairwise_mergeSort (le := leI) leI_tr leI_to (g.nodes.map NodeL.id)
  exact this.imp fun h => by simpa [leI] using h
theorem numsN_len (g : GraphL) : (numsN g).length = g.nodes.length := by unfold numsN; rw [List.length_mergeSort, List.length_map]
theorem filter_le (l : List Int) (p : Int → Bool) (n : Nat) (h : l.length ≤ n) : (l.filter p).length ≤ n := Nat.le_trans (List.length_filter_le _ _) h
theorem labeledL_set (g : GraphL) (ls : List ByteArray) : labeledL g (setS ls) = labeledL g ls := by
  unfold labeledL
  refine List.filter_congr fun i _ => ?_
  rw [Bool.eq_iff_iff]
  simp only [List.all_eq_true, setS_mem]
theorem all_take (p : ByteArray → Bool) (L : List ByteArray) (j : Nat) (hj : j < L.length) : (L.take (j + 1)).all p = ((L.take j).all p && p L[j]) := by
  rw [List.take_succ_eq_append_getElem hj, List.all_append]
  simp
set_option maxHeartbeats 6400000 in
set_option maxRecDepth 20000 in
theorem labeledAt (W : World) (s : Nat) (g : GraphL) (h : StoreE W s g) (hd : (g.nodes.map NodeL.id).Nodup) (hl : ∀ a ∈ g.nodes, (a.labels.map bl).Nodup) (hn : g.nodes.length ≤ 131072) (v : Value) (ls : List ByteArray) (hv : StrsAt W v ls) (hls : ls.length ≤ 2097152) (ht : ∀ t ∈ ls, t.size ≤ 2097152) :
    Calls Tryz.prog 31 #[.pointer (some ⟨s, 0, none⟩), v] W fun e w' => ∃ R, e = .returned R ∧ w'.ownsRow W.heap.size 2 1 R (labeledL g ls).length ((labeledL g ls).map (Value.int .i64)) ∧ Below W.heap.size W w' := by
  have hI : ∀ i ∈ numsN g, ((labelsOf g.nodes i).map bl).Nodup := fun i hi => by
    obtain ⟨a, ha, rfl⟩ := List.mem_map.1 (List.mem_mergeSort.1 hi)
    exact labels_nodup hd ha (hl a ha)
  obtain ⟨nums, hnums⟩ : ∃ nums, nums = numsN g := ⟨_, rfl⟩
  have hnl : nums.length ≤ 131072 := by rw [hnums, numsN_len]; exact hn
  have hns : nums.Pairwise (· ≤ ·) := by rw [hnums]; exact numsN_sorted g
  have hS := setStrsAt v ls W hv hls
  obtain ⟨L, hL⟩ : ∃ L, L = setS ls := ⟨_, rfl⟩
  rw [← hL] at hS
  have hLz : L.length ≤ 2097152 := by rw [hL]; unfold setS; rw [List.length_map]; exact Nat.le_trans (setL_sub _) (by rw [List.length_map]; exact hls)
  have hLt : ∀ t ∈ L, t.size ≤ 2097152 := fun t q => ht t ((setS_mem ls t).1 (by rw [← hL]; exact q))
  rw [← labeledL_set, ← hL]
  have eL : labeledL g L = nums.filter fun i => L.all fun t => hasLbl g.nodes t i := by rw [hnums]; rfl
  rw [eL]
  rw [← hnums] at hI
  have HST := Lib.hid h
  have HI := Lib.hid hI
  have HS := Lib.hid hS
  have HLT := Lib.hid hLt
  have HNS := Lib.hid hns
  obtain ⟨m0, m1, m4, m5, V2, V3, q0, _, _, q3, _, _, _⟩ := h.is
  have iv := ints_of_own q3
  have e2 : (g.nodes.map NodeL.id).mergeSort leI = nums := hnums.symm
  rw [e2] at iv
  have c2 := cell_of q0 2 rfl
  have HIV := Lib.hid iv
  have HNU := Lib.hid hnums
  clear hd hl hn hv hls ht hI hS hLt hns eL hL iv q3 h e2 hnums
  go_enter Tryz.func31, Tryz.ntmps31
  go_wp2_with (first
    | (go_at_call 53; (with_reducible refine HS.out.mono ?_); rintro e w1 ⟨V, rfl, hV, hb1⟩
       obtain ⟨pV, cV, rfl⟩ := own_slice hV))
  obtain ⟨m, hm⟩ : ∃ m, m = L.length := ⟨_, rfl⟩
  have hT := strs_of_own hV
  rw [← hm] at hT ⊢
  have HT := Lib.hid hT
  have HM := Lib.hid hm
  have HB1 := Lib.hid hb1
  have hmz : m ≤ 2097152 := by omega
  clear hV hT hm hb1 c2 q0
  go_loopg [5, 15] m (fun gg s5 s15 wr => ∃ j : Nat, j + gg = m ∧ s15 = .int .i64 j ∧ Hid (IntsAt wr s5 (nums.filter fun i => (L.take j).all fun t => hasLbl g.nodes t i) ∧ Below w1.heap.size w1 wr))
  case atStart => exact ⟨0, by omega, rfl, Lib.hid ⟨by have q := HIV.out.below HB1.out; rwa [show (nums.filter fun i => (L.take 0).all fun t => hasLbl g.nodes t i) = nums from List.filter_eq_self.2 (by simp)], Below.refl _ _⟩⟩
  case round =>
    obtain ⟨j, hjg, rfl, HA⟩ := hrel
    by_cases hj : (j : Int) < m
    · have hj1 : j < L.length := by have := HM.out; omega
      obtain ⟨pp, cc, e0, hcv⟩ := HT.out.below HA.out.2
      injection e0 with e1 e2 e3
      subst e1
      obtain ⟨g2, off, rfl, hcj⟩ := hcv (by intro q; rw [q] at hj1; simp at hj1)
      obtain ⟨t, htj⟩ : ∃ t, t = L[j] := ⟨_, rfl⟩
      have cj : wr.cell? ⟨g2, off + j, none⟩ = some (.string t) := by
        have := hcj j (by simpa using hj1)
        rw [this, htj]
        simp [hj1, bl]
      have htz := HLT.out t (by rw [htj]; exact List.getElem_mem hj1)
      have st := HST.out.below (below_any HB1.out HA.out.2 HB1.out.size)
      obtain ⟨k0, k1, k4, k5, U2, U3, r0, _, _, _, _, r5, _⟩ := st.is
      have c4 := cell_of r0 4 rfl
      obtain ⟨nn, ff, hnn, hmap, h3, _⟩ := r5
      have hkey : keyOf Tryz.prog 9 (.string t) = some (.string (bl t)) := Go.WideMaps.keyOf_string_mk Tryz.underlying9 (by unfold maxLen; omega)
      have hrow := ints_of_own (groups_row h3 (bl t))
      have e4 : (g.nodes.map NodeL.id).mergeSort leI = nums := HNU.out.symm
      rw [e4, grp_label g.nodes nums t HI.out] at hrow
      have HC := Lib.hid (andAt _ _ _ _ wr HA.out.1 hrow (HNS.out.filter _) (HNS.out.filter _) (filter_le _ _ _ (by omega)) (filter_le _ _ _ (by omega)))
      rw [andL_filter] at HC
      have etk : (nums.filter fun i => ((L.take j).all fun t => hasLbl g.nodes t i) && hasLbl g.nodes t i) = nums.filter fun i => (L.take (j + 1)).all fun t => hasLbl g.nodes t i := by
        refine List.filter_congr fun i _ => ?_
        rw [all_take _ L j hj1, htj]
      rw [etk] at HC
      obtain ⟨v0, hv0⟩ : ∃ v0, v0 = (ff (.string (bl t))).getD (.slice none 0 0) := ⟨_, rfl⟩
      rw [← hv0] at HC
      have HV0 := Lib.hid hv0
      clear hv0
      clear hcj hcv e2 e3 htj etk hrow h3 hnn st htz e4
      go_wp2_with (first
        | (at_lookup; refine wpList_look_held rfl _ _ 75 rfl 9 77 law9 Tryz.underlying75 (zero77 _) k4 nn rfl hmap _ (.string (bl t)) rfl hkey trivial ?_; rw [← HV0.out])
        | (go_at_call 62; (with_reducible refine HC.out.mono ?_); rintro e w3 ⟨R, rfl, hR, hb3⟩))
      have hAN := Lib.hid (And.intro (ints_of_own hR) (below_any HA.out.2 hb3 HA.out.2.size))
      go_roundg (gk - 1)
      case measure => omega
      case rel => exact ⟨j + 1, by omega, by go_num, hAN⟩
    · have e : L.take j = L := by rw [List.take_of_length_le]; have := HM.out; omega
      have hA := HA.out
      rw [e] at hA
      have HC := Lib.hid (cloneSetAt _ _ wr hA.1 (filter_le _ _ _ (by omega)))
      have HB := Lib.hid (below_any HB1.out hA.2 HB1.out.size)
      clear hA HA e
      go_wp2_with (first
        | (go_at_call 63; (with_reducible refine HC.out.mono ?_); rintro e w3 ⟨R, rfl, hR, hb3⟩))
      go_ret
      exact ⟨_, rfl, own_base hR HB.out.size, below_any HB.out hb3 HB.out.size⟩
end Go.Proofs.YtcfmenkigolnoaaGreatDoor

/- EqNums: are two rows of numbers the same? -/
namespace Go.Proofs.YtcfmenkigolnoaaGreatDoor
open Go.RowKit

set_option maxHeartbeats 3200000 in
set_option maxRecDepth 20000 in
theorem eqNumsAt (V U : Value) (xs ys : List Int) (W : World) (hx : IntsAt W V xs) (hy : IntsAt W U ys) (hn : xs.length ≤ 2097152) :
    Calls Tryz.prog 24 #[V, U] W fun e w' => e = .returned (.bool (decide (xs = ys))) ∧ Below W.heap.size W w' := by
  obtain ⟨p1, c1, rfl, hc1⟩ := hx
  obtain ⟨p2, c2, rfl, hc2⟩ := hy
  obtain ⟨n, hl1⟩ : ∃ n, n = xs.length := ⟨_, rfl⟩
  obtain ⟨m, hl2⟩ : ∃ m, m = ys.length := ⟨_, rfl⟩
  obtain ⟨r, hr⟩ : ∃ r, r = decide (xs = ys) := ⟨_, rfl⟩
  rw [← hr, ← hl1, ← hl2]
  rw [← hl1] at hn
  have HC1 := Lib.hid hc1
  have HC2 := Lib.hid hc2
  have HR := Lib.hid hr
  have HL := Lib.hid (And.intro hl1 hl2)
  clear hc1 hc2 hr hl1 hl2
  by_cases e : n = m
  · subst e
    go_enter Tryz.func24, Tryz.ntmps24
    go_wp2_with fail
    go_loopg [5] n (fun gg s5 wr => ∃ j : Nat, j + gg = n ∧ s5 = .int .i64 j ∧ Hid ((∀ (t : Nat) (h1 : t < xs.length) (h2 : t < ys.length), t < j → xs[t] = ys[t]) ∧ wr.heap = W.heap ∧ Below W.heap.size W wr))
    case atStart => exact ⟨0, by omega, rfl, Lib.hid ⟨fun t _ _ h => by omega, rfl, Below.refl _ _⟩⟩
    case round =>
      obtain ⟨j, hjg, rfl, HA⟩ := hrel
      by_cases hj : (j : Int) < n
      · have hj1 : j < xs.length := by have := HL.out; omega
        have hj2 : j < ys.length := by have := HL.out; omega
        obtain ⟨g1, o1, rfl, hcj1⟩ := HC1.out (by intro q; rw [q] at hj1; simp at hj1)
        obtain ⟨g2, o2, rfl, hcj2⟩ := HC2.out (by intro q; rw [q] at hj2; simp at hj2)
        obtain ⟨x, hxj⟩ : ∃ x, x = xs[j] := ⟨_, rfl⟩
        obtain ⟨y, hyj⟩ : ∃ y, y = ys[j] := ⟨_, rfl⟩
        have C1 : ∀ W' : World, W'.heap = W.heap → W'.cell? ⟨g1, o1 + j, none⟩ = some (.int .i64 x) := fun W' h => by
          have q := hcj1 j hj1
          unfold World.cell? at q ⊢
          rw [h, q, hxj]
          simp [hj1]
        have C2 : ∀ W' : World, W'.heap = W.heap → W'.cell? ⟨g2, o2 + j, none⟩ = some (.int .i64 y) := fun W' h => by
          have q := hcj2 j hj2
          unfold World.cell? at q ⊢
          rw [h, q, hyj]
          simp [hj2]
        have hh := HA.out.2.1
        have HXY := Lib.hid (And.intro hxj hyj)
        clear hcj1 hcj2 hxj hyj
        go_upto_region 6 with fail
        refine wp_region_held_drew (S := fun W' => W'.heap = W.heap) (by kernel_rfl) hh (fun _ => ?_)
        refine wpAnyH_take (i := 0) (v := .slice (some ⟨g1, o1, none⟩) n c1) rfl (by kernel_rfl) (by kernel_rfl) (by kernel_rfl) (fun _ _ _ h => h) (Or.inl ⟨by rfl, fun W _ => by go_simp⟩) (hh) ?_
        try simp only [Act.put, List.getElem_toArray, List.getElem_cons_succ, List.getElem_cons_zero, List.setIfInBounds_toArray, List.set_cons_zero, List.set_cons_succ]
        refine wpAnyH_take (i := 1) (v := .int .i64 (j : Int)) rfl (by kernel_rfl) (by kernel_rfl) (by kernel_rfl) (fun _ _ _ h => h) (Or.inl ⟨by rfl, fun W _ => by go_simp⟩) (hh) ?_
        try simp only [Act.put, List.getElem_toArray, List.getElem_cons_succ, List.getElem_cons_zero, List.setIfInBounds_toArray, List.set_cons_zero, List.set_cons_succ]
        refine wpAnyH_take (i := 4) (v := .slice (some ⟨g2, o2, none⟩) n c2) rfl (by kernel_rfl) (by kernel_rfl) (by kernel_rfl) (fun _ _ _ h => h) (Or.inl ⟨by rfl, fun W _ => by go_simp⟩) (hh) ?_
        try simp only [Act.put, List.getElem_toArray, List.getElem_cons_succ, List.getElem_cons_zero, List.setIfInBounds_toArray, List.set_cons_zero, List.set_cons_succ]
        refine wpAnyH_take (i := 5) (v := .int .i64 (j : Int)) rfl (by kernel_rfl) (by kernel_rfl) (by kernel_rfl) (fun _ _ _ h => h) (Or.inl ⟨by rfl, fun W _ => by go_simp⟩) (hh) ?_
        try simp only [Act.put, List.getElem_toArray, List.getElem_cons_succ, List.getElem_cons_zero, List.setIfInBounds_toArray, List.set_cons_zero, List.set_cons_succ]
        refine wpAnyH_take (i := 2) (v := .pointer (some ⟨g1, o1 + j, none⟩)) rfl (by kernel_rfl) (by kernel_rfl) (by kernel_rfl) (fun _ _ _ h => h) (Or.inl ⟨by rfl, fun W _ => by go_simp⟩) (hh) ?_
        try simp only [Act.put, List.getElem_toArray, List.getElem_cons_succ, List.getElem_cons_zero, List.setIfInBounds_toArray, List.set_cons_zero, List.set_cons_succ]
        refine wpAnyH_take (i := 6) (v := .pointer (some ⟨g2, o2 + j, none⟩)) rfl (by kernel_rfl) (by kernel_rfl) (by kernel_rfl) (fun _ _ _ h => h) (Or.inl ⟨by rfl, fun W _ => by go_simp⟩) (hh) ?_
        try simp only [Act.put, List.getElem_toArray, List.getElem_cons_succ, List.getElem_cons_zero, List.setIfInBounds_toArray, List.set_cons_zero, List.set_cons_succ]
        refine wpAnyH_take (i := 3) (v := .int .i64 x) rfl (by kernel_rfl) (by kernel_rfl) (by kernel_rfl) (fun _ _ _ h => h) (Or.inl ⟨by rfl, fun W' h => by have q := C1 W' h; go_simp⟩) (hh) ?_
        try simp only [Act.put, List.getElem_toArray, List.getElem_cons_succ, List.getElem_cons_zero, List.setIfInBounds_toArray, List.set_cons_zero, List.set_cons_succ]
        refine wpAnyH_take (i := 7) (v := .int .i64 y) rfl (by kernel_rfl) (by kernel_rfl) (by kernel_rfl) (fun _ _ _ h => h) (Or.inl ⟨by rfl, fun W' h => by have q := C2 W' h; go_simp⟩) (hh) ?_
        try simp only [Act.put, List.getElem_toArray, List.getElem_cons_succ, List.getElem_cons_zero, List.setIfInBounds_toArray, List.set_cons_zero, List.set_cons_succ]
        refine wpAnyH_take (i := 8) (v := .bool (x != y)) rfl (by kernel_rfl) (by kernel_rfl) (by kernel_rfl) (fun _ _ _ h => h) (Or.inl ⟨by rfl, fun W _ => by go_simp; try rfl⟩) (hh) ?_
        try simp only [Act.put, List.getElem_toArray, List.getElem_cons_succ, List.getElem_cons_zero, List.setIfInBounds_toArray, List.set_cons_zero, List.set_cons_succ]
        refine wpAnyH_done (by kernel_rfl) ?_ _
        by_cases q : x = y
        · have q2 : (x != y) = false := by simpa using q
          rw [q2]
          have HZ : Hid ((∀ (t : Nat) (h1 : t < xs.length) (h2 : t < ys.length), t < j + 1 → xs[t] = ys[t]) ∧ wr.drew.heap = W.heap ∧ Below W.heap.size W wr.drew) := Lib.hid ⟨fun t h1 h2 h => by
            by_cases e : t = j
            · subst e
              rw [← HXY.out.1, ← HXY.out.2]
              exact q
            · exact HA.out.1 t h1 h2 (by omega), hh, HA.out.2.2.drew⟩
          clear q q2 hh C1 C2
          go_wp2_with fail
          go_roundg (gk - 1)
          case measure => omega
          case rel => exact ⟨j + 1, by omega, by go_num, HZ⟩
        · have q2 : (x != y) = true := by simpa using q
          rw [q2]
          have hf : Hid (r = false) := Lib.hid <| by
            rw [HR.out]
            refine decide_eq_false fun e => q ?_
            rw [HXY.out.1, HXY.out.2]
            subst e
            rfl
          have HB := Lib.hid (HA.out.2.2.drew)
          clear q q2 hh C1 C2
          go_wp2_with fail
          go_ret
          exact ⟨by rw [hf.out]; rfl, HB.out⟩
      · have ht : Hid (r = true) := Lib.hid <| by
          rw [HR.out]
          refine decide_eq_true ?_
          have := HL.out
          exact List.ext_getElem (by omega) fun t h1 h2 => HA.out.1 t h1 h2 (by omega)
        go_wp2_with fail
        go_ret
        exact ⟨by rw [ht.out]; rfl, HA.out.2.2⟩
  · have hf : Hid (r = false) := Lib.hid <| by
      rw [HR.out]
      refine decide_eq_false fun q => e ?_
      have := HL.out
      rw [this.1, this.2, q]
    have e3 : ¬ (n : Int) = m := by omega
    go_enter Tryz.func24, Tryz.ntmps24
    go_wp2_with fail
    go_ret
    exact ⟨by rw [hf.out]; rfl, Below.refl _ _⟩
end Go.Proofs.YtcfmenkigolnoaaGreatDoor

/- What stands behind a way. -/
namespace Go.Proofs.YtcfmenkigolnoaaGreatDoor
open Go.RowKit

theorem grp_once {κ : Type} [DecidableEq κ] (i : Int) (x : κ) : (L : List κ) → L.Nodup → grp (L.map fun t => (t, i)) x = if decide (x ∈ L) = true then [i] else []
  | [], _ => by simp [grp]
  | a :: L, h => by
    rw [List.nodup_cons] at h
    have ih := grp_once i x L h.2
    rw [List.map_cons, show ((a, i) :: L.map fun t => (t, i)) = [(a, i)] ++ L.map (fun t => (t, i)) from rfl, grp_append, ih]
    by_cases e : a = x
    · subst e
      have : decide (a ∈ L) = false := decide_eq_false h.1
      simp [grp, this]
    · have e2 : ¬ x = a := fun q => e q.symm
      simp [grp, e, e2]
theorem waysL_nodup (s d : Int) : (waysL s d).Nodup := by
  unfold waysL
  by_cases h : d = s
  · subst h
    simp
  · have h2 : ¬ s = d := fun q => h q.symm
    simp [h, h2]
theorem ways_nodup {s d : Int} (h1 : (Lit.int .i64 s).wf = true) (h2 : (Lit.int .i64 d).wf = true) : ((waysL s d).map mkW).Nodup := by
  have e : ((waysL s d).map mkW).map Subtype.val = waysL s d := by
    rw [List.map_map]
    exact (List.map_congr_left fun p hp => mkW_eq (waysL_wf h1 h2 p hp)).trans (List.map_id _)
  have q := waysL_nodup s d
  rw [← e] at q
  exact List.Pairwise.of_map Subtype.val (fun a b h r => h (by rw [r])) q
/-- Does the edge with this number go this way? -/
def hasWay (l : List EdgeL) (w : Way) (i : Int) : Bool := decide (w ∈ (edgeWays l i).map mkW)
theorem grp_way (l : List EdgeL) (nums : List Int) (w : Way) (h : ∀ i ∈ nums, ((edgeWays l i).map mkW).Nodup) : grp (nums.flatMap (evE l)) w = nums.filter (hasWay l w) := by
  rw [grp_flat, ← flat_if]
  have : ∀ i ∈ nums, grp (evE l i) w = if hasWay l w i = true then [i] else [] := fun i hi => by
    have q := grp_once i w ((edgeWays l i).map mkW) (h i hi)
    rw [List.map_map] at q
    unfold evE hasWay
    exact q.trans (by congr)
  induction nums with
  | nil => rfl
  | cons i r ih =>
    rw [List.flatMap_cons, List.flatMap_cons, this i (by simp), ih (fun j hj => h j (by simp [hj])) (fun j hj => this j (by simp [hj]))]
theorem edgeWays_nodup {l : List EdgeL} (hd : (l.map EdgeL.id).Nodup) {a : EdgeL} (ha : a ∈ l) (h1 : (Lit.int .i64 a.src).wf = true) (h2 : (Lit.int .i64 a.dst).wf = true) : ((edgeWays l a.id).map mkW).Nodup := by
  rw [edgeWays_eq hd ha]
  exact ways_nodup h1 h2
end Go.Proofs.YtcfmenkigolnoaaGreatDoor

/- A set of texts: is one among them. -/
namespace Go.Proofs.YtcfmenkigolnoaaGreatDoor
open Go.RowKit

/-- Is a text one of these? -/
def memB (t : ByteArray) (ts : List ByteArray) : Bool := decide (bl t ∈ ts.map bl)
theorem memB_iff (t : ByteArray) (ts : List ByteArray) : memB t ts = true ↔ t ∈ ts := by
  unfold memB
  rw [decide_eq_true_iff]
  refine ⟨fun h => ?_, fun h => List.mem_map.2 ⟨t, h, rfl⟩⟩
  obtain ⟨u, hu, e⟩ := List.mem_map.1 h
  rw [← bl_inj e]
  exact hu
theorem memB_no {t : ByteArray} {ts : List ByteArray} (h : ¬ t ∈ ts) : memB t ts = false := by
  rw [Bool.eq_false_iff]
  exact fun q => h ((memB_iff t ts).1 q)
theorem beqS_no {x y : ByteArray} (h : ¬ x = y) : (x.toList == y.toList) = false := by
  rw [beq_eq_false_iff_ne]
  intro e
  rw [Lib.toList_data, Lib.toList_data] at e
  exact h (bl_inj e)
theorem nanStrAt (a : ByteArray) (w : World) : Calls Tryz.prog 138 #[.string a] w fun e w' => e = .returned (.bool false) ∧ w' = w := by
  go_enter Tryz.func138, Tryz.ntmps138
  go_wp2_with fail
  go_ret
  exact ⟨by simp, rfl⟩
theorem nanStrAt2 (a : ByteArray) (w : World) : Calls Tryz.prog 113 #[.string a] w fun e w' => e = .returned (.bool false) ∧ w' = w := by
  go_enter Tryz.func113, Tryz.ntmps113
  go_wp2_with fail
  go_ret
  exact ⟨by simp, rfl⟩
theorem lessStrAt (a b : ByteArray) (w : World) : Calls Tryz.prog 112 #[.string a, .string b] w fun e w' => e = .returned (.bool (decide (bl a < bl b))) ∧ w' = w := by
  have HN := Lib.hid (fun x W => nanStrAt x W)
  go_enter Tryz.func112, Tryz.ntmps112
  go_wp2_with (first
    | (go_at_call 138; (with_reducible refine (HN.out _ _).mono ?_); rintro e w1 ⟨rfl, rfl⟩))
  go_ret
  refine ⟨?_, rfl⟩
  simp [bl, Lib.toList_data, bytesLess_eq]
theorem rising_text {ts : List ByteArray} (hs : ts.Pairwise (fun x y => leT x y = true)) (i j : Nat) (hi : i < ts.length) (hj : j < ts.length) (h : i ≤ j) : bl ts[i] ≤ bl ts[j] := by
  by_cases e : i = j
  · subst e
    exact List.le_refl _
  · have := List.pairwise_iff_getElem.1 hs i j hi hj (by omega)
    simpa [leT, leB] using this
set_option maxHeartbeats 6400000 in
set_option maxRecDepth 100000 in
theorem findTextAt (V : Value) (ts : List ByteArray) (ky : ByteArray) (w : World) (h : StrsAt w V ts) (hs : ts.Pairwise (fun x y => leT x y = true)) (hn : ts.length ≤ 2097152) :
    Calls Tryz.prog 92 #[V, .string ky] w fun e w' => ∃ (i : Nat) (b : Bool), e = .returned (.tuple #[.int .i64 i, .bool b]) ∧ b = memB ky ts ∧ Below w.heap.size w w' := by
  obtain ⟨p, cap, rfl, _⟩ := id h
  have HH := Lib.hid h
  have HS := Lib.hid hs
  have HN := Lib.hid (fun x W => nanStrAt2 x W)
  clear h hs
  go_enter Tryz.func92, Tryz.ntmps92
  go_wp2_with fail
  go_loopg [7, 8] ts.length (fun gg s7 s8 wr => ∃ lo hi : Nat, s7 = .int .i64 lo ∧ s8 = .int .i64 hi ∧ lo ≤ hi ∧ hi ≤ ts.length ∧ hi - lo ≤ gg ∧ Hid ((∀ (t : Nat) (ht : t < ts.length), t < lo → bl ts[t] < bl ky) ∧ (∀ (t : Nat) (ht : t < ts.length), hi ≤ t → ¬ bl ts[t] < bl ky) ∧ Below w.heap.size w wr))
  case atStart => exact ⟨0, ts.length, rfl, rfl, Nat.zero_le _, Nat.le_refl _, by omega, Lib.hid ⟨fun t _ h => by omega, fun t h1 h2 => by omega, Below.refl _ _⟩⟩
  case round =>
    obtain ⟨lo, hi, rfl, rfl, hlo, hin, hg, hb⟩ := hrel
    by_cases hlt : lo < hi
    · have hx : (lo + hi) / 2 < ts.length := by omega
      obtain ⟨pp, cc, e0, hcv⟩ := HH.out.below hb.out.2.2
      injection e0 with e1 e2 e3
      subst e1
      obtain ⟨g, off, rfl, hcj⟩ := hcv (by intro q; rw [q] at hx; simp at hx)
      have cj : wr.cell? ⟨g, off + (lo + hi) / 2, none⟩ = some (.string ts[(lo + hi) / 2]) := by
        rw [hcj _ hx]
        simp [hx]
      obtain ⟨r, hr⟩ : ∃ r, r = decide (bl ts[(lo + hi) / 2] < bl ky) := ⟨_, rfl⟩
      have HC := Lib.hid (fun W => lessStrAt ts[(lo + hi) / 2] ky W)
      rw [← hr] at HC
      have HZ : Hid (r = true ↔ bl ts[(lo + hi) / 2] < bl ky) := Lib.hid (by rw [hr]; simp)
      have hs1 : (lo : Int) + hi < 9223372036854775808 := by omega
      have t1 : (0 : Int) ≤ ((lo : Int) + hi) / 2 := by omega
      have t2 : ((lo : Int) + hi) / 2 < ts.length := by omega
      have t3 : (((lo : Int) + hi) / 2).toNat = (lo + hi) / 2 := by omega
      have hlt3 : (lo : Int) < hi := by omega
      clear hr hcv hcj e2 e3
      cases r with
      | true =>
        have hz2 := HZ.out.1 rfl
        have HB := Lib.hid (show (∀ (t : Nat) (ht : t < ts.length), t < (lo + hi) / 2 + 1 → bl ts[t] < bl ky) from fun t ht h => List.lt_of_le_of_lt (rising_text HS.out t _ ht hx (by omega)) hz2)
        clear hz2 HZ
        go_wp2_with (first
          | (go_at_call 112; (with_reducible refine (HC.out _).mono ?_); rintro e w3 ⟨rfl, rfl⟩))
        go_roundg (hi - ((lo + hi) / 2 + 1))
        case measure => omega
        case rel => exact ⟨(lo + hi) / 2 + 1, hi, by rw [show (((lo + hi) / 2 + 1 : Nat) : Int) = ((lo : Int) + (hi : Int)) / 2 + 1 by omega], rfl, by omega, hin, Nat.le_refl _, Lib.hid ⟨HB.out, hb.out.2.1, hb.out.2.2⟩⟩
      | false =>
        have hz2 : ¬ bl ts[(lo + hi) / 2] < bl ky := fun h => by have := HZ.out.2 h; simp at this
        have HB := Lib.hid (show (∀ (t : Nat) (ht : t < ts.length), (lo + hi) / 2 ≤ t → ¬ bl ts[t] < bl ky) from fun t ht h q => hz2 (List.lt_of_le_of_lt (rising_text HS.out _ t hx ht h) q))
        clear hz2 HZ
        go_wp2_with (first
          | (go_at_call 112; (with_reducible refine (HC.out _).mono ?_); rintro e w3 ⟨rfl, rfl⟩))
        go_roundg ((lo + hi) / 2 - lo)
        case measure => omega
        case rel => exact ⟨lo, (lo + hi) / 2, rfl, by rw [show (((lo + hi) / 2 : Nat) : Int) = ((lo : Int) + (hi : Int)) / 2 by omega], by omega, by omega, Nat.le_refl _, Lib.hid ⟨hb.out.1, HB.out, hb.out.2.2⟩⟩
    · obtain rfl : hi = lo := by omega
      by_cases hlt2 : hi < ts.length
      · obtain ⟨pp, cc, e0, hcv⟩ := HH.out.below hb.out.2.2
        injection e0 with e1 e2 e3
        subst e1
        obtain ⟨g, off, rfl, hcj⟩ := hcv (by intro q; rw [q] at hlt2; simp at hlt2)
        have cj : wr.cell? ⟨g, off + hi, none⟩ = some (.string ts[hi]) := by
          rw [hcj _ hlt2]
          simp [hlt2]
        obtain ⟨x, hxe⟩ : ∃ x, x = ts[hi] := ⟨_, rfl⟩
        rw [← hxe] at cj
        have HX := Lib.hid hxe
        have hlt3 : (hi : Int) < ts.length := by omega
        clear hcv hcj e2 e3 hxe
        by_cases hz : x = ky
        · subst hz
          go_wp2_with (first
            | (go_at_call 113; (with_reducible refine (HN.out _ _).mono ?_); rintro e w3 ⟨rfl, rfl⟩))
          refine bodyPost_ret (results_tmp2 rfl _ _ _) rfl ?_
          refine ⟨hi, true, by simp, ?_, hb.out.2.2⟩
          symm
          rw [memB_iff, HX.out]
          exact List.getElem_mem _
        · have hz3 : (x.toList == ky.toList) = false := beqS_no hz
          go_wp2_with (first
            | (go_at_call 113; (with_reducible refine (HN.out _ _).mono ?_); rintro e w3 ⟨rfl, rfl⟩))
          refine bodyPost_ret (results_tmp2 rfl _ _ _) rfl ?_
          refine ⟨hi, false, by simp [hz3], ?_, hb.out.2.2⟩
          symm
          refine memB_no fun hq => ?_
          obtain ⟨t, ht, e⟩ := List.getElem_of_mem hq
          by_cases h1 : t < hi
          · have := hb.out.1 t ht h1
            rw [e] at this
            exact List.lt_irrefl _ this
          · have h2 := rising_text HS.out hi t hlt2 ht (by omega)
            rw [e] at h2
            rcases List.le_iff_lt_or_eq.1 h2 with h3 | h3
            · exact hb.out.2.1 hi hlt2 (Nat.le_refl _) h3
            · exact hz (by rw [HX.out]; exact bl_inj h3)
      · obtain rfl : hi = ts.length := by omega
        go_wp2_with fail
        refine bodyPost_ret (results_tmp2 rfl _ _ _) rfl ?_
        refine ⟨ts.length, false, rfl, ?_, hb.out.2.2⟩
        symm
        refine memB_no fun hq => ?_
        obtain ⟨t, ht, e⟩ := List.getElem_of_mem hq
        have := hb.out.1 t ht ht
        rw [e] at this
        exact List.lt_irrefl _ this
set_option maxHeartbeats 1600000 in
set_option maxRecDepth 20000 in
theorem hasTextAt (V : Value) (ts : List ByteArray) (ky : ByteArray) (w : World) (h : StrsAt w V ts) (hs : ts.Pairwise (fun x y => leT x y = true)) (hn : ts.length ≤ 2097152) :
    Calls Tryz.prog 54 #[V, .string ky] w fun e w' => e = .returned (.bool (memB ky ts)) ∧ Below w.heap.size w w' := by
  have HC := Lib.hid (findTextAt V ts ky w h hs hn)
  obtain ⟨r, hr⟩ : ∃ r, r = memB ky ts := ⟨_, rfl⟩
  rw [← hr] at HC ⊢
  clear h hr
  go_enter Tryz.func54, Tryz.ntmps54
  go_wp2_with (first
    | (go_at_call 92; (with_reducible refine HC.out.mono ?_); rintro e w1 ⟨i, b, rfl, rfl, hb⟩))
  go_ret
  exact ⟨rfl, hb⟩
end Go.Proofs.YtcfmenkigolnoaaGreatDoor

/- Hops: the numbers of the edges at a node that go this way and are of one of these types. -/
namespace Go.Proofs.YtcfmenkigolnoaaGreatDoor
open Go.RowKit

theorem wp_look_held {P : Program} {o : Oper} {a : Act} {w : World} {K : Act → World → Prop} {Q : Exit → Act → World → Prop} {f : Lit → Option Value} (m x : Operand) (t : TypeId) (hop : o.op = Op.lookup t m x false) (k e : TypeId) (KP : Go.Maps.Keyed P k) (ht : P.underlying t = some (.map k e)) {z : Value} (hz : (zeroValue e).run P w = .ok z w) (b n : Nat)
    (hm : a.eval m = .map (some b)) (hown : HMap w P k b n f) (key : Value) (kl : Lit) (hx : a.eval x = key) (hkey : keyOf P k key = some kl) (hl : WideAt.IsKeyLit kl)
    (hK : K (a.put o.dst ((f kl).getD z)) w) : o.wp P a w K Q := by
  have hrun := hown.look KP ht hz hkey hl
  unfold Oper.wp
  simp [execOp, hop, hm, hx, hrun, Result.andThen]
  exact hK
theorem wpList_look_heldg {P : Program} {w : World} {ops : Array Oper} {rest : List Oper} {o : Oper} {a : Act} {Q : Exit → Act → World → Prop} {f : Lit → Option Value} (hw : Region.wanted o (yielded ops a.tmps) = true) (m x : Operand) (t : TypeId) (hop : o.op = Op.lookup t m x false) (k e : TypeId) (K : Go.Maps.Keyed P k) (ht : P.underlying t = some (.map k e)) {z : Value} (hz : (zeroValue e).run P w = .ok z w) (b n : Nat)
    (hm : a.eval m = .map (some b)) (hown : HMap w P k b n f) (key : Value) (kl : Lit) (hx : a.eval x = key) (hkey : keyOf P k key = some kl) (hl : WideAt.IsKeyLit kl)
    (hK : wpList P ops Q rest (a.put o.dst ((f kl).getD z)) w) : wpList P ops Q (o :: rest) a w := by
  unfold wpList
  rw [if_pos hw]
  exact .inl (wp_look_held m x t hop k e K ht hz b n hm hown key kl hx hkey hl hK)
def numsE (g : GraphL) : List Int := (g.edges.map EdgeL.id).mergeSort leI
theorem numsE_sorted (g : GraphL) : (numsE g).Pairwise (· ≤ ·) := by
  have := List.pairwise_mergeSort (le := leI) leI_tr leI_to (g.edges.map EdgeL.id)
  exact this.imp fun h => by simpa [leI] using h
theorem numsE_len (g : GraphL) : (numsE g).length = g.edges.length := by unfold numsE; rw [List.length_mergeSort, List.length_map]
/-- The type of the edge with this number. -/
def typeOf (l : List EdgeL) (i : Int) : ByteArray := ((l.find? fun a => decide (a.id = i)).map EdgeL.type).getD ⟨#[]⟩
theorem typeOf_eq {l : List EdgeL} (h : (l.map EdgeL.id).Nodup) {a : EdgeL} (ha : a ∈ l) : typeOf l a.id = a.type := by
  unfold typeOf
  rw [find_id h ha]
  rfl
/-- What Hops tells. -/
def typeP (l : List EdgeL) (ts : List ByteArray) (i : Int) : Bool := ts.isEmpty || memB (typeOf l i) ts
theorem typeP_iff (l : List EdgeL) (ts : List ByteArray) (i : Int) (h : ts ≠ []) : typeP l ts i = true ↔ typeOf l i ∈ ts := by
  unfold typeP
  rw [Bool.or_eq_true, memB_iff, List.isEmpty_iff]
  exact ⟨fun q => q.resolve_left h, .inr⟩
def hopsL (g : GraphL) (w : Way) (ts : List ByteArray) : List Int := ((numsE g).filter (hasWay g.edges w)).filter (typeP g.edges ts)
theorem setS_nil (ts : List ByteArray) : (setS ts).isEmpty = ts.isEmpty := by
  rw [Bool.eq_iff_iff, List.isEmpty_iff, List.isEmpty_iff]
  constructor
  · intro h
    refine List.eq_nil_iff_forall_not_mem.2 fun x hx => ?_
    have := (setS_mem ts x).2 hx
    rw [h] at this
    simp at this
  · intro h
    refine List.eq_nil_iff_forall_not_mem.2 fun x hx => ?_
    have := (setS_mem ts x).1 hx
    rw [h] at this
    simp at this
theorem hopsL_set (g : GraphL) (w : Way) (ts : List ByteArray) : hopsL g w (setS ts) = hopsL g w ts := by
  unfold hopsL
  refine List.filter_congr fun i _ => ?_
  unfold typeP
  rw [setS_nil, show memB (typeOf g.edges i) (setS ts) = memB (typeOf g.edges i) ts by rw [Bool.eq_iff_iff, memB_iff, memB_iff]; exact setS_mem ts _]
theorem setS_rise (ts : List ByteArray) : (setS ts).Pairwise (fun x y => leT x y = true) := by
  have := (setL_rise leB_tr leB_to leB_an (ts.map bl)).2
  unfold setS
  rw [List.pairwise_map]
  exact this.imp fun h => by unfold leT; rw [bl_ofL, bl_ofL]; exact h.1
theorem edge_wf {w : World} {P : Nat → Prop} {b : Nat} {l : List EdgeL} (h : AllIn edgeE EdgeL.id PlainE w P b l) (a : EdgeL) (ha : a ∈ l) : (Lit.int .i64 a.id).wf = true ∧ (Lit.int .i64 a.src).wf = true ∧ (Lit.int .i64 a.dst).wf = true := by
  obtain ⟨_, _, _, _, h3, _⟩ := h
  obtain ⟨a', c, hp, _, pv, rfl, hw, _⟩ := h3 a ha
  rw [← hp.1, ← hp.2.1, ← hp.2.2.1]
  exact hw
theorem look_type {w : World} {P : Nat → Prop} {b : Nat} {l : List EdgeL} (h : AllIn edgeE EdgeL.id PlainE w P b l) (hd : (l.map EdgeL.id).Nodup) (n : Int) (hn : n ∈ l.map EdgeL.id) : ∃ m f x0 x1 x2 pv, m ≤ l.length ∧ HMap w Tryz.prog 2 b m f ∧ (f (.int .i64 n)).getD (.agg #[.int .i64 0, .int .i64 0, .int .i64 0, .string ⟨#[]⟩, .slice none 0 0]) = .agg #[x0, x1, x2, .string (typeOf l n), pv] ∧
    (Lit.int .i64 n).wf = true := by
  obtain ⟨a, ha, rfl⟩ := List.mem_map.1 hn
  have hwf := edge_wf h a ha
  obtain ⟨m, f, h1, h2, h3, h4⟩ := h
  obtain ⟨a', c, hp, hf, pv, rfl, _, _, hl, hs⟩ := h3 a ha
  exact ⟨m, f, _, _, _, pv, h1, h2, by rw [hf, typeOf_eq hd ha, ← hp.2.2.2.1]; rfl, hwf.1⟩
theorem field41_3 (x z y u v : Value) (w : World) : (Instr.field 41 (.agg #[x, z, y, u, v]) 3).run Tryz.prog w = .ok u w := by kernel_rfl
theorem zero42 (w : World) : (zeroValue 42).run Tryz.prog w = .ok (.slice none 0 0) w := by kernel_rfl
theorem filter_step {α : Type} (p : α → Bool) (l : List α) (j : Nat) (hj : j < l.length) : (l.take (j + 1)).filter p = (l.take j).filter p ++ (if p l[j] = true then [l[j]] else []) := by
  rw [List.take_succ_eq_append_getElem hj, List.filter_append]
  by_cases q : p l[j] = true
  · rw [if_pos q, List.filter_cons_of_pos q]; rfl
  · rw [if_neg q, List.filter_cons_of_neg q]; rfl
set_option maxHeartbeats 6400000 in
set_option maxRecDepth 20000 in
theorem hopsAt (W : World) (s : Nat) (g : GraphL) (h : StoreE W s g) (hd : (g.edges.map EdgeL.id).Nodup) (hn : g.edges.length ≤ 65536) (wy : Way) (v : Value) (ts : List ByteArray) (hv : StrsAt W v ts) (hts : ts.length ≤ 2097152) :
    Calls Tryz.prog 23 #[.pointer (some ⟨s, 0, none⟩), .int .i64 wy.1.1, .int .i64 wy.1.2, v] W fun e w' => ∃ R, e = .returned R ∧ w'.ownsRow W.heap.size 2 1 R (hopsL g wy ts).length ((hopsL g wy ts).map (Value.int .i64)) ∧ Below W.heap.size W w' := by
  obtain ⟨i0, hi, hz0, hz1, hz2⟩ := info_parts zero_intE
  obtain ⟨m0, m1, m4, m5, V2, V3, q0, _, q2, _, _, _, q6⟩ := h.is
  have hI : ∀ i ∈ numsE g, ((edgeWays g.edges i).map mkW).Nodup := fun i hi => by
    obtain ⟨a, ha, rfl⟩ := List.mem_map.1 (List.mem_mergeSort.1 hi)
    obtain ⟨_, h1, h2⟩ := edge_wf q2 a ha
    exact edgeWays_nodup hd ha h1 h2
  have hS := setStrsAt v ts W hv hts
  obtain ⟨L, hL⟩ : ∃ L, L = setS ts := ⟨_, rfl⟩
  rw [← hL] at hS
  have hLr : L.Pairwise (fun x y => leT x y = true) := by rw [hL]; exact setS_rise ts
  have hLz : L.length ≤ 2097152 := by rw [hL]; unfold setS; rw [List.length_map]; exact Nat.le_trans (setL_sub _) (by rw [List.length_map]; exact hts)
  rw [← hopsL_set, ← hL]
  obtain ⟨hs, hhs⟩ : ∃ hs, hs = (numsE g).filter (hasWay g.edges wy) := ⟨_, rfl⟩
  have hhl : hs.length ≤ 65536 := by rw [hhs]; exact filter_le _ _ _ (by rw [numsE_len]; exact hn)
  have hmem : ∀ i ∈ hs, i ∈ g.edges.map EdgeL.id := fun i hi => by
    rw [hhs] at hi
    exact List.mem_mergeSort.1 (List.mem_filter.1 hi).1
  have eH : hopsL g wy L = hs.filter (typeP g.edges L) := by rw [hhs]; rfl
  rw [eH]
  have HST := Lib.hid h
  have HS := Lib.hid hS
  have HLR := Lib.hid hLr
  have HMEM := Lib.hid hmem
  have HI := Lib.hid hI
  have HHS := Lib.hid hhs
  have HD := Lib.hid hd
  have hkey := KW_key wy
  have hkl : WideAt.IsKeyLit (KW wy) := trivial
  obtain ⟨a, ha⟩ : ∃ a, a = wy.1.1 := ⟨_, rfl⟩
  obtain ⟨d, hdd⟩ : ∃ d, d = wy.1.2 := ⟨_, rfl⟩
  rw [← ha, ← hdd] at hkey ⊢
  obtain ⟨kw, hkw⟩ : ∃ kw, kw = KW wy := ⟨_, rfl⟩
  rw [← hkw] at hkey hkl
  have HKW := Lib.hid hkw
  clear h hS hLr hmem hI hhs hd hL hv hts eH q0 q2 q6 ha hdd hkw hn
  go_enter Tryz.func23, Tryz.ntmps23
  go_upto_region 3 with (first
    | (go_at_call 53; (with_reducible refine HS.out.mono ?_); rintro e w1 ⟨V, rfl, hV, hb1⟩
       obtain ⟨pV, cV, rfl⟩ := own_slice hV))
  have st := HST.out.below hb1
  obtain ⟨k0, k1, k4, k5, U2, U3, r0, _, _, _, _, _, r6⟩ := st.is
  obtain ⟨nn, ff, hnn, hmap, h3, _⟩ := r6
  have hrow := groups_row h3 wy
  have e6 : (g.edges.map EdgeL.id).mergeSort leI = numsE g := rfl
  rw [e6, grp_way g.edges (numsE g) wy HI.out, ← HHS.out] at hrow
  obtain ⟨p0, cap0, hv0⟩ := own_slice hrow
  rw [hv0] at hrow
  rw [← HKW.out] at hv0
  have c5 := cell_of r0 5 rfl
  have hin := ints_of_own hrow
  obtain ⟨n, hnl⟩ : ∃ n, n = hs.length := ⟨_, rfl⟩
  obtain ⟨m, hml⟩ : ∃ m, m = L.length := ⟨_, rfl⟩
  have hLs := strs_of_own hV
  rw [← hnl] at hv0 hin hhl
  rw [← hml] at hLs hLz ⊢
  have HV0 := Lib.hid hv0
  have HIN := Lib.hid hin
  have HLS := Lib.hid hLs
  have HB1 := Lib.hid hb1
  have HL := Lib.hid (And.intro hnl hml)
  clear hv0 hin hLs hrow h3 hnn e6 hV hnl hml hb1 st
  go_wp2_with (first
    | (at_lookup; refine wpList_look_held rfl _ _ 76 rfl 98 42 law98 Tryz.underlying76 (zero42 _) k5 nn rfl hmap _ kw rfl hkey hkl ?_; rw [HV0.out]))
  clear hmap c5 hkey r0
  go_loopg [10, 12, 24] n (fun gg s10 s12 s24 wr => ∃ j : Nat, j + gg = n ∧ s24 = .int .i64 j ∧ Hid (wr.ownsRow w1.heap.size 2 1 s10 ((hs.take j).filter (typeP g.edges L)).length (((hs.take j).filter (typeP g.edges L)).map (Value.int .i64)) ∧ Below w1.heap.size w1 wr))
  case atStart => exact ⟨0, by omega, rfl, Lib.hid ⟨by simp; exact World.ownsRow_nil _ _ _ _, Below.refl _ _⟩⟩
  case round =>
    obtain ⟨j, hjg, rfl, HA⟩ := hrel
    by_cases hj : (j : Int) < n
    · have hj1 : j < hs.length := by have := HL.out.1; omega
      obtain ⟨pp, cc, e0, hcv⟩ := HIN.out.below HA.out.2
      injection e0 with e1 e2 e3
      subst e1
      obtain ⟨g2, off, rfl, hcj⟩ := hcv (by intro q; rw [q] at hj1; simp at hj1)
      obtain ⟨x, hxj⟩ : ∃ x, x = hs[j] := ⟨_, rfl⟩
      have cj : wr.cell? ⟨g2, off + j, none⟩ = some (.int .i64 x) := by
        rw [hcj j hj1, hxj]
        simp [hj1]
      have etk := filter_step (typeP g.edges L) hs j hj1
      rw [← hxj] at etk
      obtain ⟨l, hl⟩ : ∃ l, l = (hs.take j).filter (typeP g.edges L) := ⟨_, rfl⟩
      have hlen : l.length ≤ 65536 := by
        rw [hl]
        refine filter_le _ _ _ ?_
        have := List.length_take_le j hs
        have := HL.out
        omega
      rw [← hl] at HA etk
      obtain ⟨r, hr⟩ : ∃ r, r = typeP g.edges L x := ⟨_, rfl⟩
      rw [← hr] at etk
      have st := HST.out.below (below_any HB1.out HA.out.2 HB1.out.size)
      obtain ⟨k0, k1, k4, k5, U2, U3, r0, _, r2, _, _, _, _⟩ := st.is
      obtain ⟨mm, f1, x0, x1, x2, pv, hmm, hmap1, hX, hwx⟩ := look_type r2 HD.out x (HMEM.out x (by rw [hxj]; exact List.getElem_mem hj1))
      have c1 := cell_of r0 1 rfl
      have hkx : keyOf Tryz.prog 2 (.int .i64 x) = some (.int .i64 x) := Go.Maps.keyOf_int_mk Tryz.underlying2 hwx
      obtain ⟨tt, htt⟩ : ∃ tt, tt = typeOf g.edges x := ⟨_, rfl⟩
      have HC := Lib.hid (hasTextAt (.slice pV m cV) L tt wr (HLS.out.below HA.out.2) HLR.out (by have := HL.out.2; omega))
      rw [← htt] at hX
      have hf := field41_3 x0 x1 x2 (.string tt) pv
      have hrr : r = (decide (m = 0) || memB tt L) := by
        rw [hr, htt, HL.out.2]
        unfold typeP
        rw [show L.isEmpty = decide (L.length = 0) by cases L <;> rfl]
      have HT := Lib.hid etk
      have HX := Lib.hid hX
      have HBB := Lib.hid (And.intro hmm hwx)
      clear hcj hcv e2 e3 hxj hr etk hl htt hX st hmm hwx
      obtain ⟨q, hq⟩ : ∃ q, q = memB tt L := ⟨_, rfl⟩
      rw [← hq] at HC hrr
      clear hq
      by_cases hm0 : m = 0
      · subst hm0
        obtain rfl : r = true := by rw [hrr]; rfl
        have ho := HA.out.1
        have hb := HA.out.2
        clear hrr HC
        go_wp2_with (first
          | (at_builtin; refine wpList_append_own_at _ rfl _ _ 42 rfl w1.heap.size 2 i0 (.int .i64 0) 1 8 Tryz.underlying42 hi hz0 hz1 hz2 rfl (by decide) _ _ _ rfl (ho.alloc _) ⟨wr.heap.size, 0, none⟩ 1 1 [.int .i64 x] rfl rfl (cells_new wr [.int .i64 x] 2) (by simp [Value.oneCell']) ?_ ?_ ?_ ?_))
        all_goals (try (first | (unfold maxLen; omega) | omega | (have := hb.size; omega) | (simp; have := hb.size; omega)))
        intro v' w5 ho5 hg5 _ hloc5
        have hb5 : Below w1.heap.size w1 w5 := (hb.alloc hb.size _).grown hg5 (by have := hb.size; simp; omega) (fun j e => (ho.lt j e).1)
        have HB := Lib.hid (show w5.ownsRow w1.heap.size 2 1 v' (l ++ [x]).length ((l ++ [x]).map (Value.int .i64)) by rw [List.length_append, List.map_append]; exact ho5)
        clear ho5 hg5 hloc5 ho hb
        go_wp2_with fail
        go_roundg (gk - 1)
        case measure => omega
        case rel => exact ⟨j + 1, by omega, by go_num, Lib.hid (by rw [HT.out, if_pos (by trivial)]; exact ⟨HB.out, hb5⟩)⟩
      · have hm1 : ((m : Int) == 0) = false := by simp; omega
        rw [show decide (m = 0) = false from decide_eq_false hm0, Bool.false_or] at hrr
        subst hrr
        cases r with
        | true =>
          go_wp2_with (first
            | ((refine wpList_look_heldg ?_ (.tmp 36) (.tmp 37) 74 ?_ 2 41 law2 Tryz.underlying74 (zero74 _) k1 mm ?_ hmap1 _ (.int .i64 x) ?_ hkx trivial ?_); rfl; rfl; rfl; rfl; rw [HX.out])
            | (go_at_call 54; (with_reducible refine HC.out.mono ?_); rintro e w3 ⟨rfl, hb3⟩
               have ho : w3.ownsRow w1.heap.size 2 1 _ l.length (l.map (Value.int .i64)) := own_below HA.out.1 hb3
               have hb : Below w1.heap.size w1 w3 := below_any HA.out.2 hb3 HA.out.2.size)
            | (at_builtin; refine wpList_append_own_at _ rfl _ _ 42 rfl w1.heap.size 2 i0 (.int .i64 0) 1 8 Tryz.underlying42 hi hz0 hz1 hz2 rfl (by decide) _ _ _ rfl (ho.alloc _) ⟨w3.heap.size, 0, none⟩ 1 1 [.int .i64 x] rfl rfl (cells_new w3 [.int .i64 x] 2) (by simp [Value.oneCell']) ?_ ?_ ?_ ?_))
          all_goals (try (first | (unfold maxLen; omega) | omega | (have := hb.size; omega) | (simp; have := hb.size; omega)))
          intro v' w5 ho5 hg5 _ hloc5
          have hb5 : Below w1.heap.size w1 w5 := (hb.alloc hb.size _).grown hg5 (by have := hb.size; simp; omega) (fun j e => (ho.lt j e).1)
          have HB := Lib.hid (show w5.ownsRow w1.heap.size 2 1 v' (l ++ [x]).length ((l ++ [x]).map (Value.int .i64)) by rw [List.length_append, List.map_append]; exact ho5)
          clear ho5 hg5 hloc5 ho hb
          go_wp2_with fail
          go_roundg (gk - 1)
          case measure => omega
          case rel => exact ⟨j + 1, by omega, by go_num, Lib.hid (by rw [HT.out, if_pos (by trivial)]; exact ⟨HB.out, hb5⟩)⟩
        | false =>
          go_wp2_with (first
            | ((refine wpList_look_heldg ?_ (.tmp 36) (.tmp 37) 74 ?_ 2 41 law2 Tryz.underlying74 (zero74 _) k1 mm ?_ hmap1 _ (.int .i64 x) ?_ hkx trivial ?_); rfl; rfl; rfl; rfl; rw [HX.out])
            | (go_at_call 54; (with_reducible refine HC.out.mono ?_); rintro e w3 ⟨rfl, hb3⟩
               have ho : w3.ownsRow w1.heap.size 2 1 _ l.length (l.map (Value.int .i64)) := own_below HA.out.1 hb3
               have hb : Below w1.heap.size w1 w3 := below_any HA.out.2 hb3 HA.out.2.size))
          go_roundg (gk - 1)
          case measure => omega
          case rel => exact ⟨j + 1, by omega, by go_num, Lib.hid (by rw [HT.out, if_neg (by simp), List.append_nil]; exact ⟨ho, hb⟩)⟩
    · have e : hs.take j = hs := by rw [List.take_of_length_le]; have := HL.out; omega
      have hA := HA.out
      rw [e] at hA
      have HZ := Lib.hid (And.intro (own_base hA.1 HB1.out.size) (below_any HB1.out hA.2 HB1.out.size))
      clear hA HA e
      go_wp2_with fail
      go_ret
      exact ⟨_, rfl, HZ.out⟩
end Go.Proofs.YtcfmenkigolnoaaGreatDoor

/- Plain forms, as lists tell them (pure). -/
namespace Go.Proofs.YtcfmenkigolnoaaGreatDoor
open Go.RowKit

def leP (x y : PairL) : Bool := leT x.key y.key
def sortP (ps : List PairL) : List PairL := ps.mergeSort leP
theorem leP_tr : ∀ a b c : PairL, leP a b = true → leP b c = true → leP a c = true := fun a b c => leB_tr _ _ _
theorem leP_to : ∀ a b : PairL, (leP a b || leP b a) = true := fun a b => leB_to _ _
theorem key_inj {ps : List PairL} (hd : (ps.map fun p => bl p.key).Nodup) {x y : PairL} (hx : x ∈ ps) (hy : y ∈ ps) (h : bl x.key = bl y.key) : x = y := by
  induction ps with
  | nil => simp at hx
  | cons a r ih =>
    rw [List.map_cons, List.nodup_cons] at hd
    rcases List.mem_cons.1 hx with e1 | h1
    · rcases List.mem_cons.1 hy with e2 | h2
      · rw [e1, e2]
      · exact absurd (List.mem_map.2 ⟨y, h2, by rw [← h, e1]⟩) hd.1
    · rcases List.mem_cons.1 hy with e2 | h2
      · exact absurd (List.mem_map.2 ⟨x, h1, by rw [h, e2]⟩) hd.1
      · exact ih hd.2 h1 h2
theorem PlainP.eq {ps ps' : List PairL} (h : PlainP ps ps') (hd : (ps.map fun p => bl p.key).Nodup) : ps' = sortP ps := by
  refine List.Perm.eq_of_pairwise (le := fun x y => leP x y = true) ?_ h.2 (List.pairwise_mergeSort leP_tr leP_to ps) (h.1.trans (List.mergeSort_perm ps leP).symm)
  intro a b ha hb h1 h2
  exact key_inj hd (h.1.mem_iff.1 ha) ((List.mergeSort_perm ps leP).mem_iff.1 hb) (leB_an _ _ h1 h2)
def plainN (a : NodeL) : NodeL := ⟨a.id, sortS a.labels, sortP a.props⟩
def plainE (a : EdgeL) : EdgeL := ⟨a.id, a.src, a.dst, a.type, sortP a.props⟩
theorem PlainN.eq {a a' : NodeL} (h : PlainN a a') (hd : (a.props.map fun p => bl p.key).Nodup) : a' = plainN a := by
  obtain ⟨i, ls, ps⟩ := a'
  obtain ⟨h1, h2, h3⟩ := h
  have h4 := h3.eq hd
  simp only at h1 h2 h4
  unfold plainN
  rw [h1, h2, h4]
theorem PlainE.eq {a a' : EdgeL} (h : PlainE a a') (hd : (a.props.map fun p => bl p.key).Nodup) : a' = plainE a := by
  obtain ⟨i, s, d, t, ps⟩ := a'
  obtain ⟨h1, h2, h3, h4, h5⟩ := h
  have h6 := h5.eq hd
  simp only at h1 h2 h3 h4 h6
  unfold plainE
  rw [h1, h2, h3, h4, h6]
/-- The node, the edge, with this number, in its plain form. -/
def nodeAt (g : GraphL) (i : Int) : NodeL := ((g.nodes.find? fun a => decide (a.id = i)).map plainN).getD ⟨i, [], []⟩
def edgeAt (g : GraphL) (i : Int) : EdgeL := ((g.edges.find? fun a => decide (a.id = i)).map plainE).getD ⟨i, 0, 0, ⟨#[]⟩, []⟩
theorem nodeAt_eq {g : GraphL} (h : (g.nodes.map NodeL.id).Nodup) {a : NodeL} (ha : a ∈ g.nodes) : nodeAt g a.id = plainN a := by
  unfold nodeAt
  rw [find_id h ha]
  rfl
theorem edgeAt_eq {g : GraphL} (h : (g.edges.map EdgeL.id).Nodup) {a : EdgeL} (ha : a ∈ g.edges) : edgeAt g a.id = plainE a := by
  unfold edgeAt
  rw [find_id h ha]
  rfl
/-- A graph's plain form. -/
def plainG (g : GraphL) : GraphL := ⟨(numsN g).map (nodeAt g), (numsE g).map (edgeAt g)⟩
theorem plainG_nodes (g : GraphL) : (plainG g).nodes.length = g.nodes.length := by unfold plainG; rw [List.length_map, numsN_len]
theorem plainG_edges (g : GraphL) : (plainG g).edges.length = g.edges.length := by unfold plainG; rw [List.length_map, numsE_len]
/-- What a graph that may be has, in few words. -/
structure GoodG (g : GraphL) : Prop where
  nn : g.nodes.length ≤ 131072
  ne : g.edges.length ≤ 65536
  dn : (g.nodes.map NodeL.id).Nodup
  de : (g.edges.map EdgeL.id).Nodup
  node : ∀ a ∈ g.nodes, nodeP a = true
  edge : ∀ a ∈ g.edges, linkP (idsN g) a = true
theorem goodG {g : GraphL} (h : graphP g = true) : GoodG g := by
  unfold graphP at h
  simp only [Bool.and_eq_true, decide_eq_true_eq, List.all_eq_true] at h
  obtain ⟨⟨⟨⟨⟨h1, h2⟩, h3⟩, h4⟩, h5⟩, h6⟩ := h
  exact ⟨h1, h2, h3, h4, h5, h6⟩
theorem props_keys {ps : List PairL} (h : propsP ps = true) : ps.length ≤ 65536 ∧ (ps.map fun p => bl p.key).Nodup ∧ (∀ p ∈ ps, wordP p.key = true) ∧ ∀ p ∈ ps, propV p.v = true := by
  unfold propsP wordsP at h
  simp only [Bool.and_eq_true, decide_eq_true_eq, List.all_eq_true] at h
  obtain ⟨⟨h1, ⟨_, h2⟩, h3⟩, h4⟩ := h
  rw [List.map_map] at h3
  exact ⟨h1, h3, fun p hp => h2 _ (List.mem_map.2 ⟨p, hp, rfl⟩), h4⟩
theorem GoodG.nkeys {g : GraphL} (h : GoodG g) (a : NodeL) (ha : a ∈ g.nodes) : propsP a.props = true := by
  have := h.node a ha
  unfold nodeP at this
  simp only [Bool.and_eq_true] at this
  exact this.2
theorem GoodG.labels {g : GraphL} (h : GoodG g) (a : NodeL) (ha : a ∈ g.nodes) : a.labels.length ≤ 65536 ∧ (a.labels.map bl).Nodup ∧ ∀ t ∈ a.labels, wordP t = true := by
  have := h.node a ha
  unfold nodeP wordsP at this
  simp only [Bool.and_eq_true, decide_eq_true_eq, List.all_eq_true] at this
  exact ⟨this.1.2.1.1, this.1.2.2, this.1.2.1.2⟩
theorem GoodG.ekeys {g : GraphL} (h : GoodG g) (a : EdgeL) (ha : a ∈ g.edges) : propsP a.props = true ∧ wordP a.type = true ∧ 0 ≤ a.id ∧ a.src ∈ idsN g ∧ a.dst ∈ idsN g := by
  have := h.edge a ha
  unfold linkP edgeP at this
  simp only [Bool.and_eq_true, decide_eq_true_eq] at this
  exact ⟨this.2.2, this.2.1.2, this.2.1.1, this.1.1, this.1.2⟩
end Go.Proofs.YtcfmenkigolnoaaGreatDoor
