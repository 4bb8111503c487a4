/- Texts of one kind, one behind the other: each says ahead of itself what it shows. -/
import Derived.Laws.MakeOwn
import Derived.Test.YtanbgdhmfjgihaaGreatDoorJbd
/- once: two lists of the same triples, in whatever order. -/
namespace Go.Proofs.YtanbgdhmfjgihaaGreatDoor
open Go.RowKit

theorem same_plain {u v : Val} (hu : Plain u) (hv : Plain v) : sameP u v = true ↔ u = v := by
  obtain ⟨k, b, n, t, x, rfl⟩ := hu
  obtain ⟨k2, b2, n2, t2, x2, rfl⟩ := hv
  rw [sameP]
  constructor
  · intro h
    simp only [Bool.and_eq_true, beq_iff_eq] at h
    obtain ⟨h1, h2, h3, h4, h5, _⟩ := h
    have e4 : t = t2 := bytes_ext (by rw [← toList_eq, ← toList_eq]; exact h4)
    have e5 : x = x2 := bytes_ext (by rw [← toList_eq, ← toList_eq]; exact h5)
    rw [h1, h2, h3, e4, e5]
  · intro h
    injection h with h1 h2 h3 h4 h5 _
    rw [h1, h2, h3, h4, h5]
    simp [eachSame]
def Plain3 (t : Tri3) : Prop := Plain t.s ∧ Plain t.p ∧ Plain t.o
theorem t3Same_eq {a b : Tri3} (ha : Plain3 a) (hb : Plain3 b) : t3Same a b = true ↔ a = b := by
  obtain ⟨s, p, o⟩ := a
  obtain ⟨s2, p2, o2⟩ := b
  unfold t3Same triSame
  simp only [Bool.and_eq_true]
  rw [same_plain ha.1 hb.1, same_plain ha.2.1 hb.2.1, same_plain ha.2.2 hb.2.2]
  simp [and_assoc]
theorem makeBools (n : Nat) (hn : n ≤ 65536) (W : World) : (Instr.makeSlice 109 (.int .i64 n) (.int .i64 n)).run Tryz.prog W = .ok (.slice (some ⟨W.heap.size, 0, none⟩) n n) (W.alloc (.cells (madeCells #[.bool false] n) 4)) := by
  obtain ⟨i, hi, hz, hs, hb⟩ := info_parts (show (Tryz.prog.info? 4).map (fun i => (i.zero, i.size, i.bytes)) = some (some (.bool false), 1, 1) by kernel_rfl)
  have h := run_makeSlice (P := Tryz.prog) W 109 4 i (.bool false) Tryz.underlying109 hi hz .i64 .i64 n n (by omega) (by omega) (by rw [hs]; simp; omega) (by rw [hb]; omega) (by omega)
  have e : (Value.bool false).cells = #[Value.bool false] := rfl
  rw [hs, e] at h
  simpa using h
/-- Which of B's are among the first of A. -/
def Used (A B : List Tri3) (i : Nat) (U : Array Value) : Prop := U.size = B.length ∧ ∀ (k : Nat) (h : k < B.length), ∃ b, U[k]? = some (.bool b) ∧ (b = true ↔ B[k] ∈ A.take i)
set_option maxHeartbeats 6400000 in
set_option maxRecDepth 20000 in
theorem onceSome (A B : List Tri3) (ga oa ca gb ob cb : Nat) (w : World) (hA : Holds w ga oa (flat A)) (hB : Holds w gb ob (flat B)) (hlen : B.length = A.length) (hn : A.length ≤ 65536) (hpA : ∀ t ∈ A, Plain3 t) (hpB : ∀ t ∈ B, Plain3 t) (hmem : ∀ t ∈ A, t ∈ B) (hdA : A.Nodup) (hdB : B.Nodup) :
    Calls Tryz.prog 36 #[.slice (some ⟨ga, oa, none⟩) A.length ca, .slice (some ⟨gb, ob, none⟩) A.length cb] w fun e w' => e = .returned (.bool true) ∧ Below w.heap.size w w' := by
  obtain ⟨n, hnn⟩ : ∃ n, n = A.length := ⟨_, rfl⟩
  rw [← hnn] at hn ⊢
  have hmk := fun W => makeBools n hn W
  have hu0 : Used A B 0 (madeCells #[.bool false] n) := by
    refine ⟨by rw [size_madeCells, hlen, hnn], fun k h => ⟨false, ?_, by simp⟩⟩
    unfold madeCells
    have hk : k < n := by omega
    simp [hk, Nat.mod_one]
  obtain ⟨W0, hW0⟩ : ∃ W0, W0 = w.alloc (.cells (madeCells #[.bool false] n) 4) := ⟨_, rfl⟩
  have hu1 : W0.heap[w.heap.size]? = some (.cells (madeCells #[.bool false] n) 4) := by rw [hW0]; exact heap_new _ _ rfl
  have b0 : Below w.heap.size w W0 := by rw [hW0]; exact below1 _ _
  obtain ⟨bu, hbu⟩ : ∃ bu, bu = w.heap.size := ⟨_, rfl⟩
  have HW := Lib.hid hW0
  have HA := Lib.hid hA
  have HB := Lib.hid hB
  have HN := Lib.hid hnn
  have HL := Lib.hid hlen
  have HPA := Lib.hid hpA
  have HPB := Lib.hid hpB
  have HM := Lib.hid hmem
  have HDA := Lib.hid hdA
  have HDB := Lib.hid hdB
  have H0 : Hid (∃ U, W0.heap[bu]? = some (.cells U 4) ∧ Used A B 0 U) := Lib.hid ⟨_, by rw [hbu]; exact hu1, hu0⟩
  have HB0 := Lib.hid b0
  have HBU := Lib.hid hbu
  clear hW0 hA hB hnn hlen hpA hpB hmem hdA hdB hu0 hu1 b0
  go_enter Tryz.func36, Tryz.ntmps36
  go_wp2_with fail
  rw [← HW.out, ← hbu]
  clear hmk hbu
  go_loopg [6] n (fun gg s6 wr => ∃ i : Nat, i + gg = n ∧ s6 = .int .i64 i ∧ Hid (Below w.heap.size w wr) ∧ Hid (∃ U, wr.heap[bu]? = some (.cells U 4) ∧ Used A B i U))
  case atStart => exact ⟨0, by omega, rfl, HB0, H0⟩
  case round =>
    clear HB0 H0
    obtain ⟨i, hig, rfl, HBr, HUr⟩ := hrel
    by_cases hlt : (i : Int) < n
    · have hi1 : i < A.length := by have := HN.out; omega
      go_wp2_with fail
      go_loopg [7, 8] (n + 1) (fun gg s7 s8 wq => (∃ k : Nat, s7 = .bool false ∧ s8 = .int .i64 k ∧ k ≤ n ∧ n - k + 1 ≤ gg ∧ Hid (∀ (k' : Nat) (h : k' < B.length), k' < k → B[k'] ≠ A[i]) ∧ Hid (Below w.heap.size w wq) ∧ Hid (∃ U, wq.heap[bu]? = some (.cells U 4) ∧ Used A B i U)) ∨ (∃ k : Nat, s7 = .bool true ∧ s8 = .int .i64 k ∧ Hid (Below w.heap.size w wq) ∧ Hid (∃ U, wq.heap[bu]? = some (.cells U 4) ∧ Used A B (i + 1) U)))
      case atStart => exact .inl ⟨0, rfl, rfl, Nat.zero_le _, by omega, Lib.hid fun _ _ h => absurd h (by omega), HBr, HUr⟩
      case round =>
        clear HBr HUr
        rcases hrel with ⟨k, rfl, rfl, hkn, hkg, HNO, HBq, HUq⟩ | ⟨k, rfl, rfl, HBq, HUq⟩
        · have hk1 : k < B.length := by
            rcases Nat.lt_or_ge k B.length with q | q
            · exact q
            · obtain ⟨m, hm, e⟩ := List.getElem_of_mem (HM.out _ (List.getElem_mem hi1))
              exact absurd e (HNO.out m hm (by omega))
          have hki : (k : Int) < n := by have := HL.out; have := HN.out; omega
          have hki2 : k < n := by have := HL.out; have := HN.out; omega
          obtain ⟨U, hU, hUs⟩ := HUq.out
          obtain ⟨b, hb, hbi⟩ := hUs.2 k hk1
          have cU := cell_of hU k hb
          have HU : Hid (∀ W, Below wr.heap.size wr W → W.cell? ⟨bu, k, none⟩ = some (.bool b)) := Lib.hid fun W h => (h.cell (p := ⟨bu, k, none⟩) (World.block_lt_of_cell? _ _ cU)).trans cU
          have HBI := Lib.hid hbi
          have HUS := Lib.hid hUs
          have HUH := Lib.hid hU
          clear hbi hb cU hUs hU HUq
          cases b with
          | true =>
            go_upto_region 11 with fail
            refine wp_region_held_drew (S := fun W => Below wr.heap.size wr W) (by kernel_rfl) (Below.refl _ _).drew (fun hHeld => ?_)
            refine wpAnyH_take (i := 0) (v := .slice (some ⟨bu, 0, none⟩) n n) rfl (by kernel_rfl) (by kernel_rfl) (by kernel_rfl) (fun _ _ _ h => h) (Or.inl ⟨by rfl, fun W _ => by go_simp⟩) hHeld ?_
            try simp only [Act.put, List.getElem_toArray, List.getElem_cons_zero, List.setIfInBounds_toArray, List.set_cons_zero, List.set_cons_succ]
            refine wpAnyH_take (i := 1) (v := .int .i64 k) rfl (by kernel_rfl) (by kernel_rfl) (by kernel_rfl) (fun _ _ _ h => h) (Or.inl ⟨by rfl, fun W _ => by go_simp⟩) hHeld ?_
            try simp only [Act.put, List.getElem_toArray, List.getElem_cons_succ, List.getElem_cons_zero, List.setIfInBounds_toArray, List.set_cons_zero, List.set_cons_succ]
            refine wpAnyH_take (i := 2) (v := .pointer (some ⟨bu, k, none⟩)) rfl (by kernel_rfl) (by kernel_rfl) (by kernel_rfl) (fun _ _ _ h => h) (Or.inl ⟨by rfl, fun W _ => by go_simp⟩) hHeld ?_
            try simp only [Act.put, List.getElem_toArray, List.getElem_cons_succ, List.getElem_cons_zero, List.setIfInBounds_toArray, List.set_cons_zero, List.set_cons_succ]
            refine wpAnyH_take (i := 3) (v := .bool true) rfl (by kernel_rfl) (by kernel_rfl) (by kernel_rfl) (fun _ _ _ h => h) (Or.inl ⟨by rfl, fun W h => by have c0 := HU.out W h; go_simp⟩) hHeld ?_
            try simp only [Act.put, List.getElem_toArray, List.getElem_cons_succ, List.getElem_cons_zero, List.setIfInBounds_toArray, List.set_cons_zero, List.set_cons_succ]
            refine wpAnyH_take (i := 4) (v := .bool false) rfl (by kernel_rfl) (by kernel_rfl) (by kernel_rfl) (fun _ _ _ h => h) (Or.inl ⟨by rfl, fun W _ => by go_simp⟩) hHeld ?_
            try simp only [Act.put, List.getElem_toArray, List.getElem_cons_succ, List.getElem_cons_zero, List.setIfInBounds_toArray, List.set_cons_zero, List.set_cons_succ]
            refine wpAnyH_take (i := 5) (v := .bool false) rfl (by kernel_rfl) (by kernel_rfl) (by kernel_rfl) (fun _ _ _ h => h) (Or.inl ⟨by rfl, fun W _ => by go_simp⟩) hHeld ?_
            try simp only [Act.put, List.getElem_toArray, List.getElem_cons_succ, List.getElem_cons_zero, List.setIfInBounds_toArray, List.set_cons_zero, List.set_cons_succ]
            refine wpAnyH_take (i := 6) (v := undef) rfl (by kernel_rfl) (by kernel_rfl) (by kernel_rfl) (fun _ _ _ h => h) (Or.inr ⟨by rfl, rfl⟩) hHeld ?_
            try simp only [Act.put, List.getElem_toArray, List.getElem_cons_succ, List.getElem_cons_zero, List.setIfInBounds_toArray, List.set_cons_zero, List.set_cons_succ]
            refine wpAnyH_take (i := 7) (v := undef) rfl (by kernel_rfl) (by kernel_rfl) (by kernel_rfl) (fun _ _ _ h => h) (Or.inr ⟨by rfl, rfl⟩) hHeld ?_
            try simp only [Act.put, List.getElem_toArray, List.getElem_cons_succ, List.getElem_cons_zero, List.setIfInBounds_toArray, List.set_cons_zero, List.set_cons_succ]
            refine wpAnyH_take (i := 8) (v := undef) rfl (by kernel_rfl) (by kernel_rfl) (by kernel_rfl) (fun _ _ _ h => h) (Or.inr ⟨by rfl, rfl⟩) hHeld ?_
            try simp only [Act.put, List.getElem_toArray, List.getElem_cons_succ, List.getElem_cons_zero, List.setIfInBounds_toArray, List.set_cons_zero, List.set_cons_succ]
            refine wpAnyH_take (i := 9) (v := undef) rfl (by kernel_rfl) (by kernel_rfl) (by kernel_rfl) (fun _ _ _ h => h) (Or.inr ⟨by rfl, rfl⟩) hHeld ?_
            try simp only [Act.put, List.getElem_toArray, List.getElem_cons_succ, List.getElem_cons_zero, List.setIfInBounds_toArray, List.set_cons_zero, List.set_cons_succ]
            refine wpAnyH_take (i := 10) (v := undef) rfl (by kernel_rfl) (by kernel_rfl) (by kernel_rfl) (fun _ _ _ h => h) (Or.inr ⟨by rfl, rfl⟩) hHeld ?_
            try simp only [Act.put, List.getElem_toArray, List.getElem_cons_succ, List.getElem_cons_zero, List.setIfInBounds_toArray, List.set_cons_zero, List.set_cons_succ]
            refine wpAnyH_take (i := 11) (v := undef) rfl (by kernel_rfl) (by kernel_rfl) (by kernel_rfl) (fun _ _ _ h => h) (Or.inr ⟨by rfl, rfl⟩) hHeld ?_
            try simp only [Act.put, List.getElem_toArray, List.getElem_cons_succ, List.getElem_cons_zero, List.setIfInBounds_toArray, List.set_cons_zero, List.set_cons_succ]
            refine wpAnyH_take (i := 12) (v := undef) rfl (by kernel_rfl) (by kernel_rfl) (by kernel_rfl) (fun _ _ _ h => h) (Or.inr ⟨by rfl, rfl⟩) hHeld ?_
            try simp only [Act.put, List.getElem_toArray, List.getElem_cons_succ, List.getElem_cons_zero, List.setIfInBounds_toArray, List.set_cons_zero, List.set_cons_succ]
            refine wpAnyH_take (i := 13) (v := undef) rfl (by kernel_rfl) (by kernel_rfl) (by kernel_rfl) (fun _ _ _ h => h) (Or.inr ⟨by rfl, rfl⟩) hHeld ?_
            try simp only [Act.put, List.getElem_toArray, List.getElem_cons_succ, List.getElem_cons_zero, List.setIfInBounds_toArray, List.set_cons_zero, List.set_cons_succ]
            refine wpAnyH_ready (rs := [14]) (by kernel_rfl) (by simp) ?_
            refine AllReadyH.cons rfl (fun K hK => ?_) AllReadyH.nil
            rw [if_neg (by exact Bool.eq_false_iff.1 rfl)]
            refine hK.out _ _ hHeld (fun _ => ?_)
            clear hK K
            try simp only [Act.put, List.getElem_toArray, List.getElem_cons_succ, List.getElem_cons_zero, List.setIfInBounds_toArray, List.set_cons_zero, List.set_cons_succ]
            refine wpAnyH_take (i := 15) (v := .bool false) rfl (by kernel_rfl) (by kernel_rfl) (by kernel_rfl) (fun _ _ _ h => h) (Or.inl ⟨by rfl, fun W _ => by go_simp⟩) hHeld ?_
            try simp only [Act.put, List.getElem_toArray, List.getElem_cons_succ, List.getElem_cons_zero, List.setIfInBounds_toArray, List.set_cons_zero, List.set_cons_succ]
            refine wpAnyH_done (by kernel_rfl) ?_ _
            have HN2 : Hid (∀ (k' : Nat) (h : k' < B.length), k' < k + 1 → B[k'] ≠ A[i]) := Lib.hid fun k' h hk' e => by
              by_cases q : k' = k
              · subst q
                have hm := HBI.out.1 rfl
                rw [e] at hm
                obtain ⟨m, hm1, hm2⟩ := List.getElem_of_mem hm
                rw [List.getElem_take] at hm2
                have hm3 : m < i := by rw [List.length_take] at hm1; omega
                have := (List.getElem_inj HDA.out).1 hm2
                omega
              · exact HNO.out k' h (by omega) e
            have HB2 : Hid (Below w.heap.size w wr.drew) := Lib.hid HBq.out.drew
            have HU2 : Hid (∃ U, wr.drew.heap[bu]? = some (.cells U 4) ∧ Used A B i U) := Lib.hid ⟨U, HUH.out, HUS.out⟩
            clear hHeld
            go_wp2_with fail
            go_roundg (n - (k + 1) + 1)
            case measure => omega
            case rel => exact .inl ⟨k + 1, rfl, by go_num, by omega, Nat.le_refl _, HN2, HB2, HU2⟩
          | false =>
            obtain ⟨a1, a2, a3, q1, q2, q3, i1, i2, i3, ra⟩ := trisAt (Holds.below _ HA.out HBq.out) i hi1
            obtain ⟨b1, b2, b3, p1, p2, p3, k1, k2, k3, rb⟩ := trisAt (Holds.below _ HB.out HBq.out) k hk1
            obtain ⟨r, hr⟩ : ∃ r, r = t3Same A[i] B[k] := ⟨_, rfl⟩
            have HRA := Lib.hid (fun W (h : Below wr.heap.size wr W) => range_below ra h)
            have HRB := Lib.hid (fun W (h : Below wr.heap.size wr W) => range_below rb h)
            have HC : Hid (∀ W, Below wr.heap.size wr W → Calls Tryz.prog 37 #[.agg #[.int .i64 a1.k, .bool a1.b, .int .i64 a1.n, .string a1.t, .string a1.x, .slice a1.p a1.len a1.cap, .int .i64 a2.k, .bool a2.b, .int .i64 a2.n, .string a2.t, .string a2.x, .slice a2.p a2.len a2.cap, .int .i64 a3.k, .bool a3.b, .int .i64 a3.n, .string a3.t, .string a3.x, .slice a3.p a3.len a3.cap], .agg #[.int .i64 b1.k, .bool b1.b, .int .i64 b1.n, .string b1.t, .string b1.x, .slice b1.p b1.len b1.cap, .int .i64 b2.k, .bool b2.b, .int .i64 b2.n, .string b2.t, .string b2.x, .slice b2.p b2.len b2.cap, .int .i64 b3.k, .bool b3.b, .int .i64 b3.n, .string b3.t, .string b3.x, .slice b3.p b3.len b3.cap]] W fun e w' => e = .returned (.bool r) ∧ Below W.heap.size W w') := Lib.hid fun W h => by
              rw [hr]
              exact eqTri a1 a2 a3 b1 b2 b3 _ _ _ _ _ _ q1 q2 q3 p1 p2 p3 W (i1.below h) (i2.below h) (i3.below h) (k1.below h) (k2.below h) (k3.below h)
            have HR : Hid (r = true ↔ A[i] = B[k]) := Lib.hid (by rw [hr]; exact t3Same_eq (HPA.out _ (List.getElem_mem hi1)) (HPB.out _ (List.getElem_mem hk1)))
            clear ra rb i1 i2 i3 k1 k2 k3 hr
            go_upto_region 11 with fail
            refine wp_region_held_drew (S := fun W => Below wr.heap.size wr W) (by kernel_rfl) (Below.refl _ _).drew (fun hHeld => ?_)
            refine wpAnyH_take (i := 0) (v := .slice (some ⟨bu, 0, none⟩) n n) rfl (by kernel_rfl) (by kernel_rfl) (by kernel_rfl) (fun _ _ _ h => h) (Or.inl ⟨by rfl, fun W _ => by go_simp⟩) hHeld ?_
            try simp only [Act.put, List.getElem_toArray, List.getElem_cons_zero, List.setIfInBounds_toArray, List.set_cons_zero, List.set_cons_succ]
            refine wpAnyH_take (i := 1) (v := .int .i64 k) rfl (by kernel_rfl) (by kernel_rfl) (by kernel_rfl) (fun _ _ _ h => h) (Or.inl ⟨by rfl, fun W _ => by go_simp⟩) hHeld ?_
            try simp only [Act.put, List.getElem_toArray, List.getElem_cons_succ, List.getElem_cons_zero, List.setIfInBounds_toArray, List.set_cons_zero, List.set_cons_succ]
            refine wpAnyH_take (i := 2) (v := .pointer (some ⟨bu, k, none⟩)) rfl (by kernel_rfl) (by kernel_rfl) (by kernel_rfl) (fun _ _ _ h => h) (Or.inl ⟨by rfl, fun W _ => by go_simp⟩) hHeld ?_
            try simp only [Act.put, List.getElem_toArray, List.getElem_cons_succ, List.getElem_cons_zero, List.setIfInBounds_toArray, List.set_cons_zero, List.set_cons_succ]
            refine wpAnyH_take (i := 3) (v := .bool false) rfl (by kernel_rfl) (by kernel_rfl) (by kernel_rfl) (fun _ _ _ h => h) (Or.inl ⟨by rfl, fun W h => by have c0 := HU.out W h; go_simp⟩) hHeld ?_
            try simp only [Act.put, List.getElem_toArray, List.getElem_cons_succ, List.getElem_cons_zero, List.setIfInBounds_toArray, List.set_cons_zero, List.set_cons_succ]
            refine wpAnyH_take (i := 4) (v := .bool true) rfl (by kernel_rfl) (by kernel_rfl) (by kernel_rfl) (fun _ _ _ h => h) (Or.inl ⟨by rfl, fun W _ => by go_simp⟩) hHeld ?_
            try simp only [Act.put, List.getElem_toArray, List.getElem_cons_succ, List.getElem_cons_zero, List.setIfInBounds_toArray, List.set_cons_zero, List.set_cons_succ]
            refine wpAnyH_take (i := 5) (v := .bool true) rfl (by kernel_rfl) (by kernel_rfl) (by kernel_rfl) (fun _ _ _ h => h) (Or.inl ⟨by rfl, fun W _ => by go_simp⟩) hHeld ?_
            try simp only [Act.put, List.getElem_toArray, List.getElem_cons_succ, List.getElem_cons_zero, List.setIfInBounds_toArray, List.set_cons_zero, List.set_cons_succ]
            refine wpAnyH_take (i := 6) (v := .slice (some ⟨ga, oa, none⟩) n ca) rfl (by kernel_rfl) (by kernel_rfl) (by kernel_rfl) (fun _ _ _ h => h) (Or.inl ⟨by rfl, fun W _ => by go_simp⟩) hHeld ?_
            try simp only [Act.put, List.getElem_toArray, List.getElem_cons_succ, List.getElem_cons_zero, List.setIfInBounds_toArray, List.set_cons_zero, List.set_cons_succ]
            refine wpAnyH_take (i := 7) (v := .int .i64 i) rfl (by kernel_rfl) (by kernel_rfl) (by kernel_rfl) (fun _ _ _ h => h) (Or.inl ⟨by rfl, fun W _ => by go_simp⟩) hHeld ?_
            try simp only [Act.put, List.getElem_toArray, List.getElem_cons_succ, List.getElem_cons_zero, List.setIfInBounds_toArray, List.set_cons_zero, List.set_cons_succ]
            refine wpAnyH_take (i := 8) (v := .pointer (some ⟨ga, oa + i * 18, none⟩)) rfl (by kernel_rfl) (by kernel_rfl) (by kernel_rfl) (fun _ _ _ h => h) (Or.inl ⟨by rfl, fun W _ => by go_simp⟩) hHeld ?_
            try simp only [Act.put, List.getElem_toArray, List.getElem_cons_succ, List.getElem_cons_zero, List.setIfInBounds_toArray, List.set_cons_zero, List.set_cons_succ]
            refine wpAnyH_take (i := 9) rfl (by kernel_rfl) (by kernel_rfl) (by kernel_rfl) (fun _ _ _ h => h) (yieldsIf_load_mid (by rfl) 41 (.tmp 41) rfl ga (oa + i * 18) rfl [.int .i64 a1.k, .bool a1.b, .int .i64 a1.n, .string a1.t, .string a1.x, .slice a1.p a1.len a1.cap, .int .i64 a2.k, .bool a2.b, .int .i64 a2.n, .string a2.t, .string a2.x, .slice a2.p a2.len a2.cap, .int .i64 a3.k, .bool a3.b, .int .i64 a3.n, .string a3.t, .string a3.x, .slice a3.p a3.len a3.cap] _ (fun W h => HRA.out W h) Tryz.underlying41 rfl info41) hHeld ?_
            try simp only [Act.put, List.getElem_toArray, List.getElem_cons_succ, List.getElem_cons_zero, List.setIfInBounds_toArray, List.set_cons_zero, List.set_cons_succ]
            refine wpAnyH_take (i := 10) (v := .slice (some ⟨gb, ob, none⟩) n cb) rfl (by kernel_rfl) (by kernel_rfl) (by kernel_rfl) (fun _ _ _ h => h) (Or.inl ⟨by rfl, fun W _ => by go_simp⟩) hHeld ?_
            try simp only [Act.put, List.getElem_toArray, List.getElem_cons_succ, List.getElem_cons_zero, List.setIfInBounds_toArray, List.set_cons_zero, List.set_cons_succ]
            refine wpAnyH_take (i := 11) (v := .int .i64 k) rfl (by kernel_rfl) (by kernel_rfl) (by kernel_rfl) (fun _ _ _ h => h) (Or.inl ⟨by rfl, fun W _ => by go_simp⟩) hHeld ?_
            try simp only [Act.put, List.getElem_toArray, List.getElem_cons_succ, List.getElem_cons_zero, List.setIfInBounds_toArray, List.set_cons_zero, List.set_cons_succ]
            refine wpAnyH_take (i := 12) (v := .pointer (some ⟨gb, ob + k * 18, none⟩)) rfl (by kernel_rfl) (by kernel_rfl) (by kernel_rfl) (fun _ _ _ h => h) (Or.inl ⟨by rfl, fun W _ => by go_simp⟩) hHeld ?_
            try simp only [Act.put, List.getElem_toArray, List.getElem_cons_succ, List.getElem_cons_zero, List.setIfInBounds_toArray, List.set_cons_zero, List.set_cons_succ]
            refine wpAnyH_take (i := 13) rfl (by kernel_rfl) (by kernel_rfl) (by kernel_rfl) (fun _ _ _ h => h) (yieldsIf_load_mid (by rfl) 41 (.tmp 45) rfl gb (ob + k * 18) rfl [.int .i64 b1.k, .bool b1.b, .int .i64 b1.n, .string b1.t, .string b1.x, .slice b1.p b1.len b1.cap, .int .i64 b2.k, .bool b2.b, .int .i64 b2.n, .string b2.t, .string b2.x, .slice b2.p b2.len b2.cap, .int .i64 b3.k, .bool b3.b, .int .i64 b3.n, .string b3.t, .string b3.x, .slice b3.p b3.len b3.cap] _ (fun W h => HRB.out W h) Tryz.underlying41 rfl info41) hHeld ?_
            try simp only [Act.put, List.getElem_toArray, List.getElem_cons_succ, List.getElem_cons_zero, List.setIfInBounds_toArray, List.set_cons_zero, List.set_cons_succ]
            refine wpAnyH_ready (rs := [14]) (by kernel_rfl) (by simp) ?_
            refine AllReadyH.cons rfl (fun K hK => ?_) AllReadyH.nil
            rw [if_pos (by rfl)]
            go_simp
            refine (HC.out _ hHeld).mono ?_
            rintro e0 w3 ⟨rfl, hb3⟩
            have hH2 := below_any hHeld hb3 hHeld.size
            clear hb3 hHeld
            refine hK.out _ _ hH2 (fun hH2 => ?_)
            clear hK K
            try simp only [Act.put, List.getElem_toArray, List.getElem_cons_succ, List.getElem_cons_zero, List.setIfInBounds_toArray, List.set_cons_zero, List.set_cons_succ]
            refine wpAnyH_take (i := 15) (v := .bool r) rfl (by kernel_rfl) (by kernel_rfl) (by kernel_rfl) (fun _ _ _ h => h) (Or.inl ⟨by rfl, fun W _ => by go_simp⟩) hH2 ?_
            try simp only [Act.put, List.getElem_toArray, List.getElem_cons_succ, List.getElem_cons_zero, List.setIfInBounds_toArray, List.set_cons_zero, List.set_cons_succ]
            refine wpAnyH_done (by kernel_rfl) ?_ _
            have HBW : Hid (Below w.heap.size w w3) := Lib.hid (HBq.out.trans (hH2.mono HBq.out.size))
            have hU3 := (hH2.block bu (lt_of_heap HUH.out)).trans HUH.out
            cases r with
            | false =>
              have HN2 : Hid (∀ (k' : Nat) (h : k' < B.length), k' < k + 1 → B[k'] ≠ A[i]) := Lib.hid fun k' h hk' e => by
                by_cases q : k' = k
                · subst q
                  exact absurd (HR.out.2 e.symm) (by decide)
                · exact HNO.out k' h (by omega) e
              have HU2 : Hid (∃ U, w3.heap[bu]? = some (.cells U 4) ∧ Used A B i U) := Lib.hid ⟨U, hU3, HUS.out⟩
              clear hH2 hU3 HC HRA HRB
              go_wp2_with fail
              go_roundg (n - (k + 1) + 1)
              case measure => omega
              case rel => exact .inl ⟨k + 1, rfl, by go_num, by omega, Nat.le_refl _, HN2, HBW, HU2⟩
            | true =>
              have hAB := HR.out.1 rfl
              have c0 : w3.cell? ⟨bu, k, none⟩ = some (.bool false) := HU.out _ hH2
              have f0 : w3.frozen? ⟨bu, k, none⟩ = false := free_of hU3 _
              have HU2 : Hid (∃ U, (w3.setCell ⟨bu, k, none⟩ (.bool true)).heap[bu]? = some (.cells U 4) ∧ Used A B (i + 1) U) := Lib.hid ⟨_, heap_set hU3 k (.bool true), by
                refine ⟨by rw [Array.size_setIfInBounds]; exact HUS.out.1, fun m hm => ?_⟩
                by_cases q : m = k
                · subst q
                  refine ⟨true, by rw [Array.getElem?_setIfInBounds_self_of_lt (by rw [HUS.out.1]; exact hm)], fun _ => ?_, fun _ => rfl⟩
                  rw [List.take_succ_eq_append_getElem hi1, ← hAB]
                  exact List.mem_append_right _ (List.mem_singleton.2 rfl)
                · obtain ⟨b, h1, h2⟩ := HUS.out.2 m hm
                  refine ⟨b, by rw [Array.getElem?_setIfInBounds_ne (by omega)]; exact h1, ?_⟩
                  rw [h2, List.take_succ_eq_append_getElem hi1, List.mem_append, List.mem_singleton]
                  constructor
                  · exact .inl
                  · rintro (h | h)
                    · exact h
                    · rw [hAB] at h
                      exact absurd ((List.getElem_inj HDB.out).1 h) q⟩
              have HB2 : Hid (Below w.heap.size w (w3.setCell ⟨bu, k, none⟩ (.bool true))) := Lib.hid (below_set HBW.out none _ (by have := HBU.out; omega) HBW.out.size)
              clear hU3 HC HRA HRB hAB
              go_wp2_with fail
              go_roundg 0
              case measure => omega
              case rel => exact .inr ⟨k + 1, rfl, by go_num, HB2, HU2⟩
        · by_cases hkk : (k : Int) < n
          · go_wp2_with fail
            go_roundg (n - (i + 1))
            case measure => omega
            case rel => exact ⟨i + 1, by omega, by go_num, HBq, HUq⟩
          · go_wp2_with fail
            go_roundg (n - (i + 1))
            case measure => omega
            case rel => exact ⟨i + 1, by omega, by go_num, HBq, HUq⟩
    · go_wp2_with fail
      go_ret
      exact ⟨rfl, HBr.out⟩
end Go.Proofs.YtanbgdhmfjgihaaGreatDoor
