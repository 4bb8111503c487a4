/- Texts of one kind, one behind the other: each says ahead of itself what it shows. -/
import Derived.Shelf.SlSortCmp.Whole1
import Derived.Test.YtanbgdhmfjgihaaGreatDoorJaz
/- sortedNumbers: the rows' numbers in an order of parts. -/
namespace Go.Proofs.YtanbgdhmfjgihaaGreatDoor
open Go.RowKit

def R3.vr (r : R3) : VR := ⟨(r.a : Nat), (r.b : Nat), (r.c : Nat)⟩
/-- A row's parts in an order of levels. -/
def prow (R : List R3) (u v z : Nat) (i : Nat) : VR := ⟨((R[i]?.getD default).at u : Nat), ((R[i]?.getD default).at v : Nat), ((R[i]?.getD default).at z : Nat)⟩
theorem at_cell {W : World} {g o : Nat} {r : R3} (h : W.rangeAt g o [.int .i64 (r.a : Nat), .int .i64 (r.b : Nat), .int .i64 (r.c : Nat)]) (p : Nat) (hp : p < 3) : W.cell? ⟨g, o + p, none⟩ = some (.int .i64 (r.at p : Nat)) := by
  match p, hp with
  | 0, _ => exact h 0 _ rfl
  | 1, _ => exact h 1 _ rfl
  | 2, _ => exact h 2 _ rfl
theorem idx78a (u v z : Int) (w : World) : (Instr.index 78 (.agg #[.int .i64 u, .int .i64 v, .int .i64 z]) (.int .i64 0)).run Tryz.prog w = .ok (.int .i64 u) w := by
  have s3 : Tryz.t3.size = 1 := rfl
  simp [s3, Instr.index, run_underlying Tryz.underlying78, asIntOf, part, Sem.run_bind, isAgg, sizeOf, go_sem]
theorem idx78b (u v z : Int) (w : World) : (Instr.index 78 (.agg #[.int .i64 u, .int .i64 v, .int .i64 z]) (.int .i64 1)).run Tryz.prog w = .ok (.int .i64 v) w := by
  have s3 : Tryz.t3.size = 1 := rfl
  simp [s3, Instr.index, run_underlying Tryz.underlying78, asIntOf, part, Sem.run_bind, isAgg, sizeOf, go_sem]
theorem idx78c (u v z : Int) (w : World) : (Instr.index 78 (.agg #[.int .i64 u, .int .i64 v, .int .i64 z]) (.int .i64 2)).run Tryz.prog w = .ok (.int .i64 z) w := by
  have s3 : Tryz.t3.size = 1 := rfl
  simp [s3, Instr.index, run_underlying Tryz.underlying78, asIntOf, part, Sem.run_bind, isAgg, sizeOf, go_sem]
set_option maxHeartbeats 1200000 in
set_option maxRecDepth 20000 in
theorem cmpNums (R : List R3) (gr cr b2 b3 x y u v z : Nat) (w : World) (hx : x < R.length) (hy : y < R.length) (hu : u < 3) (hv : v < 3) (hz : z < 3) (hn : R.length < 1073741824)
    (k2 : w.cell? ⟨b2, 0, none⟩ = some (.slice (some ⟨gr, 0, none⟩) R.length cr)) (k3 : w.rangeAt b3 0 [.int .i64 u, .int .i64 v, .int .i64 z])
    (hR : ∀ (j : Nat) (h : j < R.length), w.rangeAt gr (j * 3) [.int .i64 (R[j].a : Nat), .int .i64 (R[j].b : Nat), .int .i64 (R[j].c : Nat)]) :
    Calls Tryz.prog 84 #[.int .i64 x, .int .i64 y, .pointer (some ⟨b3, 0, none⟩), .pointer (some ⟨b2, 0, none⟩)] w fun e w' => e = .returned (.int .i64 (VR.cf (prow R u v z x) (prow R u v z y))) ∧ Low w.heap.size w w' := by
  have hpx : prow R u v z x = ⟨(R[x].at u : Nat), (R[x].at v : Nat), (R[x].at z : Nat)⟩ := by unfold prow; rw [List.getElem?_eq_getElem hx]; rfl
  have hpy : prow R u v z y = ⟨(R[y].at u : Nat), (R[y].at v : Nat), (R[y].at z : Nat)⟩ := by unfold prow; rw [List.getElem?_eq_getElem hy]; rfl
  rw [hpx, hpy]
  have hX := fun p hp => at_cell (hR x hx) p hp
  have hY := fun p hp => at_cell (hR y hy) p hp
  have keep : ∀ (g o : Nat) (c : Value), w.cell? ⟨g, o, none⟩ = some c → ∀ W, Low w.heap.size w W → W.cell? ⟨g, o, none⟩ = some c := fun g o c h W hb => (hb.cell (p := ⟨g, o, none⟩) (World.block_lt_of_cell? w _ h)).trans h
  unfold VR.cf rowI
  have x0 := keep _ _ _ (hX u hu)
  have x1 := keep _ _ _ (hX v hv)
  have x2 := keep _ _ _ (hX z hz)
  have y0 := keep _ _ _ (hY u hu)
  have y1 := keep _ _ _ (hY v hv)
  have y2 := keep _ _ _ (hY z hz)
  have HK2 := Lib.hid (keep _ _ _ k2)
  simp only
  generalize ((R[x].at u : Nat) : Int) = a0 at *
  generalize ((R[x].at v : Nat) : Int) = a1 at *
  generalize ((R[x].at z : Nat) : Int) = a2 at *
  generalize ((R[y].at u : Nat) : Int) = d0 at *
  generalize ((R[y].at v : Nat) : Int) = d1 at *
  generalize ((R[y].at z : Nat) : Int) = d2 at *
  have hc0 := fun W => cmpInt85 a0 d0 W
  have hc1 := fun W => cmpInt85 a1 d1 W
  have hc2 := fun W => cmpInt85 a2 d2 W
  generalize cmpZ a0 d0 = c0 at hc0 ⊢
  generalize cmpZ a1 d1 = c1 at hc1 ⊢
  generalize cmpZ a2 d2 = c2 at hc2 ⊢
  obtain ⟨r, hr⟩ : ∃ r, r = lexI c0 (lexI c1 c2) := ⟨_, rfl⟩
  rw [← hr]
  have HR := Lib.hid hr
  have HX0 := Lib.hid x0
  have HX1 := Lib.hid x1
  have HX2 := Lib.hid x2
  have HY0 := Lib.hid y0
  have HY1 := Lib.hid y1
  have HY2 := Lib.hid y2
  have hxi : (x : Int) < R.length := by omega
  have hyi : (y : Int) < R.length := by omega
  clear hr x0 x1 x2 y0 y1 y2 hX hY keep hR k2 hpx hpy
  go_enter Tryz.func84, Tryz.ntmps84
  go_wp2_with (first
    | ((with_reducible refine wpList_lev (.tmp 2) b3 0 u v z k3 ?_ ?_ ?_ ?_); rfl; rfl; rfl))
  go_loopw [11] (fun i wr => Low w.heap.size w wr ∧ ∃ j : Nat, i = .int .i64 j ∧ (j = 0 ∨ (j = 1 ∧ c0 = 0) ∨ (j = 2 ∧ c0 = 0 ∧ c1 = 0) ∨ (j = 3 ∧ c0 = 0 ∧ c1 = 0 ∧ c2 = 0))) (fun i _ => 3 - (intOf i).toNat)
  case atStart => exact ⟨Low.refl _ _, 0, rfl, .inl rfl⟩
  case round =>
    obtain ⟨hb, j, rfl, rfl | ⟨rfl, z0⟩ | ⟨rfl, z0, z1⟩ | ⟨rfl, z0, z1, z2⟩⟩ := hrel
    · have hp3 : (u : Int) < 3 := by omega
      have hix := fun w => idx78a u v z w
      go_upto_region 4 with fail
      refine wp_region_held_drew (S := fun W => Low w.heap.size w W) (by kernel_rfl) hb.drew (fun hHeld => ?_)
      refine wpAnyH_take (i := 0) (v := .slice (some ⟨gr, 0, none⟩) R.length cr) rfl (by kernel_rfl) (by kernel_rfl) (by kernel_rfl) (fun _ _ _ h => h) (Or.inl ⟨by rfl, fun W h => by have c0 := HK2.out W h; go_simp⟩) hHeld ?_
      try simp only [Act.put, List.getElem_toArray, List.getElem_cons_zero, List.setIfInBounds_toArray, List.set_cons_zero, List.set_cons_succ]
      refine wpAnyH_take (i := 1) (v := .int .i64 x) rfl (by kernel_rfl) (by kernel_rfl) (by kernel_rfl) (fun _ _ _ h => h) (Or.inl ⟨by rfl, fun W _ => by go_simp⟩) hHeld ?_
      try simp only [Act.put, List.getElem_toArray, List.getElem_cons_succ, List.getElem_cons_zero, List.setIfInBounds_toArray, List.set_cons_zero, List.set_cons_succ]
      refine wpAnyH_take (i := 2) (v := .int .i64 u) rfl (by kernel_rfl) (by kernel_rfl) (by kernel_rfl) (fun _ _ _ h => h) (Or.inl ⟨by rfl, fun W _ => by go_simp⟩) hHeld ?_
      try simp only [Act.put, List.getElem_toArray, List.getElem_cons_succ, List.getElem_cons_zero, List.setIfInBounds_toArray, List.set_cons_zero, List.set_cons_succ]
      refine wpAnyH_take (i := 3) (v := .pointer (some ⟨gr, x * 3, none⟩)) rfl (by kernel_rfl) (by kernel_rfl) (by kernel_rfl) (fun _ _ _ h => h) (Or.inl ⟨by rfl, fun W _ => by go_simp⟩) hHeld ?_
      try simp only [Act.put, List.getElem_toArray, List.getElem_cons_succ, List.getElem_cons_zero, List.setIfInBounds_toArray, List.set_cons_zero, List.set_cons_succ]
      refine wpAnyH_take (i := 4) (v := .pointer (some ⟨gr, x * 3 + u, none⟩)) rfl (by kernel_rfl) (by kernel_rfl) (by kernel_rfl) (fun _ _ _ h => h) (Or.inl ⟨by rfl, fun W _ => by go_simp⟩) hHeld ?_
      try simp only [Act.put, List.getElem_toArray, List.getElem_cons_succ, List.getElem_cons_zero, List.setIfInBounds_toArray, List.set_cons_zero, List.set_cons_succ]
      refine wpAnyH_take (i := 5) (v := .int .i64 a0) rfl (by kernel_rfl) (by kernel_rfl) (by kernel_rfl) (fun _ _ _ h => h) (Or.inl ⟨by rfl, fun W h => by have c0 := HX0.out W h; go_simp⟩) hHeld ?_
      try simp only [Act.put, List.getElem_toArray, List.getElem_cons_succ, List.getElem_cons_zero, List.setIfInBounds_toArray, List.set_cons_zero, List.set_cons_succ]
      refine wpAnyH_take (i := 6) (v := .slice (some ⟨gr, 0, none⟩) R.length cr) rfl (by kernel_rfl) (by kernel_rfl) (by kernel_rfl) (fun _ _ _ h => h) (Or.inl ⟨by rfl, fun W h => by have c0 := HK2.out W h; go_simp⟩) hHeld ?_
      try simp only [Act.put, List.getElem_toArray, List.getElem_cons_succ, List.getElem_cons_zero, List.setIfInBounds_toArray, List.set_cons_zero, List.set_cons_succ]
      refine wpAnyH_take (i := 7) (v := .int .i64 y) rfl (by kernel_rfl) (by kernel_rfl) (by kernel_rfl) (fun _ _ _ h => h) (Or.inl ⟨by rfl, fun W _ => by go_simp⟩) hHeld ?_
      try simp only [Act.put, List.getElem_toArray, List.getElem_cons_succ, List.getElem_cons_zero, List.setIfInBounds_toArray, List.set_cons_zero, List.set_cons_succ]
      refine wpAnyH_take (i := 8) (v := .int .i64 u) rfl (by kernel_rfl) (by kernel_rfl) (by kernel_rfl) (fun _ _ _ h => h) (Or.inl ⟨by rfl, fun W _ => by go_simp⟩) hHeld ?_
      try simp only [Act.put, List.getElem_toArray, List.getElem_cons_succ, List.getElem_cons_zero, List.setIfInBounds_toArray, List.set_cons_zero, List.set_cons_succ]
      refine wpAnyH_take (i := 9) (v := .pointer (some ⟨gr, y * 3, none⟩)) rfl (by kernel_rfl) (by kernel_rfl) (by kernel_rfl) (fun _ _ _ h => h) (Or.inl ⟨by rfl, fun W _ => by go_simp⟩) hHeld ?_
      try simp only [Act.put, List.getElem_toArray, List.getElem_cons_succ, List.getElem_cons_zero, List.setIfInBounds_toArray, List.set_cons_zero, List.set_cons_succ]
      refine wpAnyH_take (i := 10) (v := .pointer (some ⟨gr, y * 3 + u, none⟩)) rfl (by kernel_rfl) (by kernel_rfl) (by kernel_rfl) (fun _ _ _ h => h) (Or.inl ⟨by rfl, fun W _ => by go_simp⟩) hHeld ?_
      try simp only [Act.put, List.getElem_toArray, List.getElem_cons_succ, List.getElem_cons_zero, List.setIfInBounds_toArray, List.set_cons_zero, List.set_cons_succ]
      refine wpAnyH_take (i := 11) (v := .int .i64 d0) rfl (by kernel_rfl) (by kernel_rfl) (by kernel_rfl) (fun _ _ _ h => h) (Or.inl ⟨by rfl, fun W h => by have c0 := HY0.out W h; go_simp⟩) hHeld ?_
      try simp only [Act.put, List.getElem_toArray, List.getElem_cons_succ, List.getElem_cons_zero, List.setIfInBounds_toArray, List.set_cons_zero, List.set_cons_succ]
      refine wpAnyH_ready (rs := [12]) (by kernel_rfl) (by simp) ?_
      refine AllReadyH.cons rfl (fun K hK => ?_) AllReadyH.nil
      rw [if_pos (by rfl)]
      go_simp
      refine (hc0 _).mono ?_
      rintro e0 w3 ⟨rfl, hw3⟩
      subst hw3
      refine hK.out _ _ hHeld (fun hHeld => ?_)
      clear hK K
      try simp only [Act.put, List.getElem_toArray, List.getElem_cons_succ, List.getElem_cons_zero, List.setIfInBounds_toArray, List.set_cons_zero, List.set_cons_succ]
      refine wpAnyH_take (i := 13) (v := .int .i64 c0) rfl (by kernel_rfl) (by kernel_rfl) (by kernel_rfl) (fun _ _ _ h => h) (Or.inl ⟨by rfl, fun W _ => by go_simp⟩) hHeld ?_
      try simp only [Act.put, List.getElem_toArray, List.getElem_cons_succ, List.getElem_cons_zero, List.setIfInBounds_toArray, List.set_cons_zero, List.set_cons_succ]
      refine wpAnyH_done (by kernel_rfl) ?_ _
      by_cases hz : c0 = 0
      · have e2 : (c0 != 0) = false := by simp [hz]
        go_wp2_with fail
        go_roundw
        case rel => exact ⟨hHeld, 1, by go_num, .inr (.inl ⟨rfl, hz⟩)⟩
        case measure => simp [intOf]
      · have e2 : (c0 != 0) = true := by simpa using hz
        go_wp2_with fail
        go_ret
        exact ⟨by rw [HR.out, lexI, if_neg hz]; rfl, hHeld⟩
    · have hp3 : (v : Int) < 3 := by omega
      have hix := fun w => idx78b u v z w
      go_upto_region 4 with fail
      refine wp_region_held_drew (S := fun W => Low w.heap.size w W) (by kernel_rfl) hb.drew (fun hHeld => ?_)
      refine wpAnyH_take (i := 0) (v := .slice (some ⟨gr, 0, none⟩) R.length cr) rfl (by kernel_rfl) (by kernel_rfl) (by kernel_rfl) (fun _ _ _ h => h) (Or.inl ⟨by rfl, fun W h => by have c0 := HK2.out W h; go_simp⟩) hHeld ?_
      try simp only [Act.put, List.getElem_toArray, List.getElem_cons_zero, List.setIfInBounds_toArray, List.set_cons_zero, List.set_cons_succ]
      refine wpAnyH_take (i := 1) (v := .int .i64 x) rfl (by kernel_rfl) (by kernel_rfl) (by kernel_rfl) (fun _ _ _ h => h) (Or.inl ⟨by rfl, fun W _ => by go_simp⟩) hHeld ?_
      try simp only [Act.put, List.getElem_toArray, List.getElem_cons_succ, List.getElem_cons_zero, List.setIfInBounds_toArray, List.set_cons_zero, List.set_cons_succ]
      refine wpAnyH_take (i := 2) (v := .int .i64 v) rfl (by kernel_rfl) (by kernel_rfl) (by kernel_rfl) (fun _ _ _ h => h) (Or.inl ⟨by rfl, fun W _ => by go_simp⟩) hHeld ?_
      try simp only [Act.put, List.getElem_toArray, List.getElem_cons_succ, List.getElem_cons_zero, List.setIfInBounds_toArray, List.set_cons_zero, List.set_cons_succ]
      refine wpAnyH_take (i := 3) (v := .pointer (some ⟨gr, x * 3, none⟩)) rfl (by kernel_rfl) (by kernel_rfl) (by kernel_rfl) (fun _ _ _ h => h) (Or.inl ⟨by rfl, fun W _ => by go_simp⟩) hHeld ?_
      try simp only [Act.put, List.getElem_toArray, List.getElem_cons_succ, List.getElem_cons_zero, List.setIfInBounds_toArray, List.set_cons_zero, List.set_cons_succ]
      refine wpAnyH_take (i := 4) (v := .pointer (some ⟨gr, x * 3 + v, none⟩)) rfl (by kernel_rfl) (by kernel_rfl) (by kernel_rfl) (fun _ _ _ h => h) (Or.inl ⟨by rfl, fun W _ => by go_simp⟩) hHeld ?_
      try simp only [Act.put, List.getElem_toArray, List.getElem_cons_succ, List.getElem_cons_zero, List.setIfInBounds_toArray, List.set_cons_zero, List.set_cons_succ]
      refine wpAnyH_take (i := 5) (v := .int .i64 a1) rfl (by kernel_rfl) (by kernel_rfl) (by kernel_rfl) (fun _ _ _ h => h) (Or.inl ⟨by rfl, fun W h => by have c0 := HX1.out W h; go_simp⟩) hHeld ?_
      try simp only [Act.put, List.getElem_toArray, List.getElem_cons_succ, List.getElem_cons_zero, List.setIfInBounds_toArray, List.set_cons_zero, List.set_cons_succ]
      refine wpAnyH_take (i := 6) (v := .slice (some ⟨gr, 0, none⟩) R.length cr) rfl (by kernel_rfl) (by kernel_rfl) (by kernel_rfl) (fun _ _ _ h => h) (Or.inl ⟨by rfl, fun W h => by have c0 := HK2.out W h; go_simp⟩) hHeld ?_
      try simp only [Act.put, List.getElem_toArray, List.getElem_cons_succ, List.getElem_cons_zero, List.setIfInBounds_toArray, List.set_cons_zero, List.set_cons_succ]
      refine wpAnyH_take (i := 7) (v := .int .i64 y) rfl (by kernel_rfl) (by kernel_rfl) (by kernel_rfl) (fun _ _ _ h => h) (Or.inl ⟨by rfl, fun W _ => by go_simp⟩) hHeld ?_
      try simp only [Act.put, List.getElem_toArray, List.getElem_cons_succ, List.getElem_cons_zero, List.setIfInBounds_toArray, List.set_cons_zero, List.set_cons_succ]
      refine wpAnyH_take (i := 8) (v := .int .i64 v) rfl (by kernel_rfl) (by kernel_rfl) (by kernel_rfl) (fun _ _ _ h => h) (Or.inl ⟨by rfl, fun W _ => by go_simp⟩) hHeld ?_
      try simp only [Act.put, List.getElem_toArray, List.getElem_cons_succ, List.getElem_cons_zero, List.setIfInBounds_toArray, List.set_cons_zero, List.set_cons_succ]
      refine wpAnyH_take (i := 9) (v := .pointer (some ⟨gr, y * 3, none⟩)) rfl (by kernel_rfl) (by kernel_rfl) (by kernel_rfl) (fun _ _ _ h => h) (Or.inl ⟨by rfl, fun W _ => by go_simp⟩) hHeld ?_
      try simp only [Act.put, List.getElem_toArray, List.getElem_cons_succ, List.getElem_cons_zero, List.setIfInBounds_toArray, List.set_cons_zero, List.set_cons_succ]
      refine wpAnyH_take (i := 10) (v := .pointer (some ⟨gr, y * 3 + v, none⟩)) rfl (by kernel_rfl) (by kernel_rfl) (by kernel_rfl) (fun _ _ _ h => h) (Or.inl ⟨by rfl, fun W _ => by go_simp⟩) hHeld ?_
      try simp only [Act.put, List.getElem_toArray, List.getElem_cons_succ, List.getElem_cons_zero, List.setIfInBounds_toArray, List.set_cons_zero, List.set_cons_succ]
      refine wpAnyH_take (i := 11) (v := .int .i64 d1) rfl (by kernel_rfl) (by kernel_rfl) (by kernel_rfl) (fun _ _ _ h => h) (Or.inl ⟨by rfl, fun W h => by have c0 := HY1.out W h; go_simp⟩) hHeld ?_
      try simp only [Act.put, List.getElem_toArray, List.getElem_cons_succ, List.getElem_cons_zero, List.setIfInBounds_toArray, List.set_cons_zero, List.set_cons_succ]
      refine wpAnyH_ready (rs := [12]) (by kernel_rfl) (by simp) ?_
      refine AllReadyH.cons rfl (fun K hK => ?_) AllReadyH.nil
      rw [if_pos (by rfl)]
      go_simp
      refine (hc1 _).mono ?_
      rintro e0 w3 ⟨rfl, hw3⟩
      subst hw3
      refine hK.out _ _ hHeld (fun hHeld => ?_)
      clear hK K
      try simp only [Act.put, List.getElem_toArray, List.getElem_cons_succ, List.getElem_cons_zero, List.setIfInBounds_toArray, List.set_cons_zero, List.set_cons_succ]
      refine wpAnyH_take (i := 13) (v := .int .i64 c1) rfl (by kernel_rfl) (by kernel_rfl) (by kernel_rfl) (fun _ _ _ h => h) (Or.inl ⟨by rfl, fun W _ => by go_simp⟩) hHeld ?_
      try simp only [Act.put, List.getElem_toArray, List.getElem_cons_succ, List.getElem_cons_zero, List.setIfInBounds_toArray, List.set_cons_zero, List.set_cons_succ]
      refine wpAnyH_done (by kernel_rfl) ?_ _
      by_cases hz : c1 = 0
      · have e2 : (c1 != 0) = false := by simp [hz]
        go_wp2_with fail
        go_roundw
        case rel => exact ⟨hHeld, 2, by go_num, .inr (.inr (.inl ⟨rfl, z0, hz⟩))⟩
        case measure => simp [intOf]
      · have e2 : (c1 != 0) = true := by simpa using hz
        go_wp2_with fail
        go_ret
        exact ⟨by rw [HR.out, lexI, if_pos z0, lexI, if_neg hz]; rfl, hHeld⟩
    · have hp3 : (z : Int) < 3 := by omega
      have hix := fun w => idx78c u v z w
      go_upto_region 4 with fail
      refine wp_region_held_drew (S := fun W => Low w.heap.size w W) (by kernel_rfl) hb.drew (fun hHeld => ?_)
      refine wpAnyH_take (i := 0) (v := .slice (some ⟨gr, 0, none⟩) R.length cr) rfl (by kernel_rfl) (by kernel_rfl) (by kernel_rfl) (fun _ _ _ h => h) (Or.inl ⟨by rfl, fun W h => by have c0 := HK2.out W h; go_simp⟩) hHeld ?_
      try simp only [Act.put, List.getElem_toArray, List.getElem_cons_zero, List.setIfInBounds_toArray, List.set_cons_zero, List.set_cons_succ]
      refine wpAnyH_take (i := 1) (v := .int .i64 x) rfl (by kernel_rfl) (by kernel_rfl) (by kernel_rfl) (fun _ _ _ h => h) (Or.inl ⟨by rfl, fun W _ => by go_simp⟩) hHeld ?_
      try simp only [Act.put, List.getElem_toArray, List.getElem_cons_succ, List.getElem_cons_zero, List.setIfInBounds_toArray, List.set_cons_zero, List.set_cons_succ]
      refine wpAnyH_take (i := 2) (v := .int .i64 z) rfl (by kernel_rfl) (by kernel_rfl) (by kernel_rfl) (fun _ _ _ h => h) (Or.inl ⟨by rfl, fun W _ => by go_simp⟩) hHeld ?_
      try simp only [Act.put, List.getElem_toArray, List.getElem_cons_succ, List.getElem_cons_zero, List.setIfInBounds_toArray, List.set_cons_zero, List.set_cons_succ]
      refine wpAnyH_take (i := 3) (v := .pointer (some ⟨gr, x * 3, none⟩)) rfl (by kernel_rfl) (by kernel_rfl) (by kernel_rfl) (fun _ _ _ h => h) (Or.inl ⟨by rfl, fun W _ => by go_simp⟩) hHeld ?_
      try simp only [Act.put, List.getElem_toArray, List.getElem_cons_succ, List.getElem_cons_zero, List.setIfInBounds_toArray, List.set_cons_zero, List.set_cons_succ]
      refine wpAnyH_take (i := 4) (v := .pointer (some ⟨gr, x * 3 + z, none⟩)) rfl (by kernel_rfl) (by kernel_rfl) (by kernel_rfl) (fun _ _ _ h => h) (Or.inl ⟨by rfl, fun W _ => by go_simp⟩) hHeld ?_
      try simp only [Act.put, List.getElem_toArray, List.getElem_cons_succ, List.getElem_cons_zero, List.setIfInBounds_toArray, List.set_cons_zero, List.set_cons_succ]
      refine wpAnyH_take (i := 5) (v := .int .i64 a2) rfl (by kernel_rfl) (by kernel_rfl) (by kernel_rfl) (fun _ _ _ h => h) (Or.inl ⟨by rfl, fun W h => by have c0 := HX2.out W h; go_simp⟩) hHeld ?_
      try simp only [Act.put, List.getElem_toArray, List.getElem_cons_succ, List.getElem_cons_zero, List.setIfInBounds_toArray, List.set_cons_zero, List.set_cons_succ]
      refine wpAnyH_take (i := 6) (v := .slice (some ⟨gr, 0, none⟩) R.length cr) rfl (by kernel_rfl) (by kernel_rfl) (by kernel_rfl) (fun _ _ _ h => h) (Or.inl ⟨by rfl, fun W h => by have c0 := HK2.out W h; go_simp⟩) hHeld ?_
      try simp only [Act.put, List.getElem_toArray, List.getElem_cons_succ, List.getElem_cons_zero, List.setIfInBounds_toArray, List.set_cons_zero, List.set_cons_succ]
      refine wpAnyH_take (i := 7) (v := .int .i64 y) rfl (by kernel_rfl) (by kernel_rfl) (by kernel_rfl) (fun _ _ _ h => h) (Or.inl ⟨by rfl, fun W _ => by go_simp⟩) hHeld ?_
      try simp only [Act.put, List.getElem_toArray, List.getElem_cons_succ, List.getElem_cons_zero, List.setIfInBounds_toArray, List.set_cons_zero, List.set_cons_succ]
      refine wpAnyH_take (i := 8) (v := .int .i64 z) rfl (by kernel_rfl) (by kernel_rfl) (by kernel_rfl) (fun _ _ _ h => h) (Or.inl ⟨by rfl, fun W _ => by go_simp⟩) hHeld ?_
      try simp only [Act.put, List.getElem_toArray, List.getElem_cons_succ, List.getElem_cons_zero, List.setIfInBounds_toArray, List.set_cons_zero, List.set_cons_succ]
      refine wpAnyH_take (i := 9) (v := .pointer (some ⟨gr, y * 3, none⟩)) rfl (by kernel_rfl) (by kernel_rfl) (by kernel_rfl) (fun _ _ _ h => h) (Or.inl ⟨by rfl, fun W _ => by go_simp⟩) hHeld ?_
      try simp only [Act.put, List.getElem_toArray, List.getElem_cons_succ, List.getElem_cons_zero, List.setIfInBounds_toArray, List.set_cons_zero, List.set_cons_succ]
      refine wpAnyH_take (i := 10) (v := .pointer (some ⟨gr, y * 3 + z, none⟩)) rfl (by kernel_rfl) (by kernel_rfl) (by kernel_rfl) (fun _ _ _ h => h) (Or.inl ⟨by rfl, fun W _ => by go_simp⟩) hHeld ?_
      try simp only [Act.put, List.getElem_toArray, List.getElem_cons_succ, List.getElem_cons_zero, List.setIfInBounds_toArray, List.set_cons_zero, List.set_cons_succ]
      refine wpAnyH_take (i := 11) (v := .int .i64 d2) rfl (by kernel_rfl) (by kernel_rfl) (by kernel_rfl) (fun _ _ _ h => h) (Or.inl ⟨by rfl, fun W h => by have c0 := HY2.out W h; go_simp⟩) hHeld ?_
      try simp only [Act.put, List.getElem_toArray, List.getElem_cons_succ, List.getElem_cons_zero, List.setIfInBounds_toArray, List.set_cons_zero, List.set_cons_succ]
      refine wpAnyH_ready (rs := [12]) (by kernel_rfl) (by simp) ?_
      refine AllReadyH.cons rfl (fun K hK => ?_) AllReadyH.nil
      rw [if_pos (by rfl)]
      go_simp
      refine (hc2 _).mono ?_
      rintro e0 w3 ⟨rfl, hw3⟩
      subst hw3
      refine hK.out _ _ hHeld (fun hHeld => ?_)
      clear hK K
      try simp only [Act.put, List.getElem_toArray, List.getElem_cons_succ, List.getElem_cons_zero, List.setIfInBounds_toArray, List.set_cons_zero, List.set_cons_succ]
      refine wpAnyH_take (i := 13) (v := .int .i64 c2) rfl (by kernel_rfl) (by kernel_rfl) (by kernel_rfl) (fun _ _ _ h => h) (Or.inl ⟨by rfl, fun W _ => by go_simp⟩) hHeld ?_
      try simp only [Act.put, List.getElem_toArray, List.getElem_cons_succ, List.getElem_cons_zero, List.setIfInBounds_toArray, List.set_cons_zero, List.set_cons_succ]
      refine wpAnyH_done (by kernel_rfl) ?_ _
      by_cases hz : c2 = 0
      · have e2 : (c2 != 0) = false := by simp [hz]
        go_wp2_with fail
        go_roundw
        case rel => exact ⟨hHeld, 3, by go_num, .inr (.inr (.inr ⟨rfl, z0, z1, hz⟩))⟩
        case measure => simp [intOf]
      · have e2 : (c2 != 0) = true := by simpa using hz
        go_wp2_with fail
        go_ret
        exact ⟨by rw [HR.out, lexI, if_pos z0, lexI, if_pos z1]; rfl, hHeld⟩
    · go_wp2_with fail
      go_ret
      exact ⟨by rw [HR.out, lexI, if_pos z0, lexI, if_pos z1, z2]; rfl, hb⟩
theorem only_sort1 {α : Type} [Inhabited α] (enc : α → Value) (w : World) (blk off m : Nat) (dk : Array α) (os : Array Obj) : Only blk w (sortWorld enc w blk off m dk os) := by
  refine ⟨rfl, rfl, rfl, ?_, fun i hi e => ?_, Nat.le_add_right _ _⟩
  · show w.heap.size ≤ ((w.heap.modify blk _) ++ os).size
    rw [Array.size_append, Array.size_modify]
    exact Nat.le_add_right _ _
  · show ((w.heap.modify blk _) ++ os)[i]? = _
    rw [Array.getElem?_append_left (by rw [Array.size_modify]; exact hi), Array.getElem?_modify, if_neg (by omega)]
theorem swoN (R : List R3) (u v z n : Nat) : Go.Sort.SWO (ltOf fun x y : Fin n => VR.cf (prow R u v z x) (prow R u v z y)) where
  irrefl x := swoR.irrefl (prow R u v z x)
  trans x y t h1 h2 := swoR.trans (prow R u v z x) (prow R u v z y) (prow R u v z t) h1 h2
  ntrans x y t h1 h2 := swoR.ntrans (prow R u v z x) (prow R u v z y) (prow R u v z t) h1 h2
/-- The rows' numbers. -/
def numsC (n : Nat) : List Value := (List.range n).map fun i => .int .i64 (i : Nat)
theorem numsC_succ (n : Nat) : numsC (n + 1) = numsC n ++ [.int .i64 (n : Nat)] := by
  unfold numsC
  rw [List.range_succ, List.map_append]
  rfl
def GN (W0 : World) (j : Nat) (V : Value) (wr : World) : Prop := wr.ownsRow W0.heap.size 3 1 V j (numsC j) ∧ Below W0.heap.size W0 wr
/-- The numbers, told. -/
def SNPost (w : World) (R : List R3) (u v z : Nat) (e : Ending) (w' : World) : Prop := ∃ (ns : List Nat) (g cap : Nat), e = .returned (.slice (some ⟨g, 0, none⟩) ns.length cap) ∧ ns.Perm (List.range R.length) ∧ ns.Pairwise (fun a b => VR.cf (prow R u v z a) (prow R u v z b) ≤ 0) ∧ (∀ (j : Nat) (h : j < ns.length), w'.cell? ⟨g, j, none⟩ = some (.int .i64 (ns[j] : Nat))) ∧ w.heap.size ≤ g ∧ Below w.heap.size w w'
theorem fin_list (n : Nat) : (Array.ofFn fun i : Fin n => i).toList.map Fin.val = List.range n := by
  rw [Array.toList_ofFn]
  refine List.ext_getElem (by simp) fun i h1 h2 => by simp
set_option maxHeartbeats 1200000 in
set_option maxRecDepth 20000 in
theorem sortedNumsSome (R : List R3) (gr cr u v z : Nat) (w : World) (h0 : 0 < R.length) (hu : u < 3) (hv : v < 3) (hz : z < 3) (hn : R.length < 1073741824)
    (hR : ∀ (j : Nat) (h : j < R.length), w.rangeAt gr (j * 3) [.int .i64 (R[j].a : Nat), .int .i64 (R[j].b : Nat), .int .i64 (R[j].c : Nat)]) :
    Calls Tryz.prog 42 #[.slice (some ⟨gr, 0, none⟩) R.length cr, .agg #[.int .i64 u, .int .i64 v, .int .i64 z]] w (SNPost w R u v z) := by
  obtain ⟨W0, hW0⟩ : ∃ W0, W0 = (w.alloc (.cells #[.slice (some ⟨gr, 0, none⟩) R.length cr] 71)).alloc (.cells #[.int .i64 u, .int .i64 v, .int .i64 z] 78) := ⟨_, rfl⟩
  have b0 : Below w.heap.size w W0 := by rw [hW0]; exact below2 _ _ _
  have k2 : W0.cell? ⟨w.heap.size, 0, none⟩ = some (.slice (some ⟨gr, 0, none⟩) R.length cr) := by rw [hW0]; exact cell_of (heap_old _ (heap_new _ _ rfl)) 0 rfl
  have k3 : W0.rangeAt (w.heap.size + 1) 0 [.int .i64 u, .int .i64 v, .int .i64 z] := by
    have hh : W0.heap[w.heap.size + 1]? = some (.cells #[.int .i64 u, .int .i64 v, .int .i64 z] 78) := by rw [hW0]; exact heap_new _ _ (by simp)
    exact range3 (cell_of hh 0 rfl) (cell_of hh 1 rfl) (cell_of hh 2 rfl)
  have s0 : w.heap.size ≤ W0.heap.size := b0.size
  have hRi : (0 : Int) < R.length := by omega
  obtain ⟨i0, hi, hz0, hz1, hz2⟩ := info_parts info3
  have HRR := Lib.hid (fun j h => range_below (hR j h) b0)
  obtain ⟨n, hnn⟩ : ∃ n, n = R.length := ⟨_, rfl⟩
  have HN := Lib.hid hnn
  rw [← hnn] at h0 hn hRi k2 hW0 ⊢
  clear hnn
  have HW := Lib.hid hW0
  have HB0 := Lib.hid b0
  have HK3 := Lib.hid k3
  clear hR hW0 b0 k3
  go_enter Tryz.func42, Tryz.ntmps42
  go_upto_region 1 with fail
  rw [← HW.out]
  go_wp2_with fail
  have HK2 := Lib.hid k2
  clear k2
  go_loopg [5, 9] n (fun gg s5 s9 wr => ∃ (j : Nat) (V : Value), V = s5 ∧ j + gg = n ∧ s9 = .int .i64 j ∧ Hid (GN W0 j V wr))
  case atStart => exact ⟨0, _, rfl, by omega, rfl, Lib.hid ⟨World.ownsRow_nil _ _ _ _, Below.refl _ _⟩⟩
  case round =>
    obtain ⟨j, V, rfl, hjg, rfl, HA⟩ := hrel
    by_cases hlt : (j : Int) < n
    · obtain ⟨hown, hbel⟩ := HA.out
      have hbs := hbel.size
      have HX := Lib.hid (And.intro hown hbel)
      clear hbel HA
      go_wp2_with (first
        | (at_builtin; refine wpList_append_own_at _ rfl _ _ 73 rfl W0.heap.size 3 i0 (.int .i64 0) 1 8 Tryz.underlying73 hi hz0 hz1 hz2 rfl (by decide) _ _ _ rfl (hown.alloc _) ⟨wr.heap.size, 0, none⟩ 1 1 [.int .i64 j] rfl rfl (cell_one_new _ _ _) ?_ ?_ ?_ ?_ ?_))
      all_goals (try (first | (unfold maxLen; omega) | omega | (simp; omega) | (intro u hu; simp only [List.mem_cons, List.mem_nil_iff, or_false] at hu; rcases hu with rfl; rfl)))
      intro v' w1 hown' hgrow _ hloc
      have acc : GN W0 (j + 1) v' w1 := by
        obtain ⟨hown, hbel⟩ := HX.out
        refine ⟨by rw [numsC_succ]; exact hown', (hbel.alloc (by omega) _).grown hgrow (by simp; omega) (fun g hg => (hown.lt g hg).1)⟩
      have ACC := Lib.hid acc
      clear acc hown' hgrow hloc hown HX
      go_wp2_with fail
      go_roundg (gk - 1)
      case measure => omega
      case rel => exact ⟨j + 1, _, rfl, by omega, by go_num, ACC⟩
    · obtain ⟨hown, hbel⟩ := HA.out
      have hjn : j = n := by omega
      subst hjn
      obtain ⟨gn, cn, rfl, hgn, hgn2, hcap⟩ := own_form hown h0
      haveI : Inhabited (Fin j) := ⟨⟨0, h0⟩⟩
      have hsz : (Array.ofFn fun i : Fin j => i).size = j := Array.size_ofFn
      have hH : Go.Sort.Holds (fun i : Fin j => Value.int .i64 (i.val : Nat)) wr gn 0 (Array.ofFn fun i : Fin j => i) := fun t ht => by
        rw [hsz] at ht
        refine ⟨?_, hown.frozenAt _⟩
        rw [Nat.zero_add, hown.cellAt t (by omega), getElem!_pos _ t (by rw [hsz]; exact ht)]
        unfold numsC
        simp [ht]
      have eg : ∀ args w, (callFunc 84 args).run Tryz.prog w = .ok (.enter 84 args) w := enters_of Tryz.func84 (by kernel_rfl) rfl
      have hcmp : CmpLays1 Tryz.prog 84 #[.pointer (some ⟨w.heap.size + 1, 0, none⟩), .pointer (some ⟨w.heap.size, 0, none⟩)] (fun i : Fin j => Value.int .i64 (i.val : Nat)) (fun x y : Fin j => VR.cf (prow R u v z x) (prow R u v z y)) gn 0 (Array.ofFn fun i : Fin j => i).size wr := by
        intro m os dk hs x y
        have hb : Below W0.heap.size W0 (sortWorld (fun i : Fin j => Value.int .i64 (i.val : Nat)) wr gn 0 m dk os) := below_only hbel (only_sort1 _ wr gn 0 m dk os) hgn hbel.size
        have hjR := HN.out
        refine (cmpNums R gr cr w.heap.size (w.heap.size + 1) x.val y.val u v z _ (by have := x.isLt; omega) (by have := y.isLt; omega) hu hv hz (by omega) ?_ (range_below HK3.out hb) (fun t ht => range_below (HRR.out t ht) hb)).mono ?_
        · rw [← hjR]
          exact (hb.cell (p := ⟨w.heap.size, 0, none⟩) (World.block_lt_of_cell? W0 _ HK2.out)).trans HK2.out
        · rintro e w' ⟨he, hb⟩
          exact ⟨he, hb.grows⟩
      have hsort := Any.slices_SortFunc Tryz.sortN (fun i : Fin j => Value.int .i64 (i.val : Nat)) (fun _ => rfl) (fun x y : Fin j => VR.cf (prow R u v z x) (prow R u v z y)) (swoN R u v z j) 84 #[.pointer (some ⟨w.heap.size + 1, 0, none⟩), .pointer (some ⟨w.heap.size, 0, none⟩)] gn 0 cn (Array.ofFn fun i : Fin j => i) wr eg hcmp hH hgn2 (by rw [hsz]; omega)
      rw [hsz] at hsort
      change Calls Tryz.prog 83 _ _ _ at hsort
      have HS := Lib.hid hsort
      have HX := Lib.hid (And.intro hH hbel)
      clear hsort hH hown hbel HA hcmp eg
      go_wp2_with (first
        | (go_at_call 83; (with_reducible refine HS.out.mono ?_); rintro e2 w2 ⟨rfl, d', nn, os, hperm, hsorted, hw2⟩; have HW2 := Lib.hid hw2; clear hw2))
      have hfin : SNPost w R u v z (.returned (.slice (some ⟨gn, 0, none⟩) j cn)) w2 := by
        obtain ⟨hH, hbel⟩ := HX.out
        have hq := perm_whole (d := Array.ofFn fun i : Fin j => i) (d' := d') (by rw [hsz]; exact hperm)
        have hlen : (d'.toList.map Fin.val).length = j := by rw [List.length_map, Array.length_toList, hq.1, hsz]
        have hds : d'.size = j := hq.1.trans hsz
        have hH2 : Go.Sort.Holds (fun i : Fin j => Value.int .i64 (i.val : Nat)) w2 gn 0 d' := by rw [HW2.out]; exact holds_sortWorld _ wr gn 0 nn _ d' os hgn2 hH hq.1
        have hb2 : Below W0.heap.size W0 w2 := by rw [HW2.out]; exact below_only hbel (only_sort1 _ wr gn 0 nn d' os) hgn hbel.size
        refine ⟨d'.toList.map Fin.val, gn, cn, by rw [hlen], ?_, ?_, fun t ht => ?_, Nat.le_trans s0 hgn, HB0.out.trans (hb2.mono s0)⟩
        · rw [← HN.out, ← fin_list j]
          exact hq.2.map _
        · rw [List.pairwise_map, List.pairwise_iff_getElem]
          intro a b ha hb hab
          have ha' : a < d'.size := by simpa using ha
          have hb' : b < d'.size := by simpa using hb
          have q := hsorted a b (Nat.zero_le _) hab (by omega)
          rw [getElem!_pos d' a ha', getElem!_pos d' b hb'] at q
          have q2 : ¬ VR.cf (prow R u v z d'[b]) (prow R u v z d'[a]) < 0 := of_decide_eq_false q
          have e : VR.cf (prow R u v z d'[b]) (prow R u v z d'[a]) = -VR.cf (prow R u v z d'[a]) (prow R u v z d'[b]) := rowI_neg _ _ _ _ _ _
          rw [Array.getElem_toList, Array.getElem_toList]
          omega
        · have ht' : t < d'.size := by rw [hlen] at ht; omega
          have := (hH2 t ht').1
          rw [Nat.zero_add, getElem!_pos d' t ht'] at this
          rw [List.getElem_map, Array.getElem_toList]
          exact this
      have HF := Lib.hid hfin
      clear hfin hperm hsorted HX HS
      go_wp2_with fail
      go_ret
      exact HF.out
end Go.Proofs.YtanbgdhmfjgihaaGreatDoor

/- A store's cursors, made. -/
namespace Go.Proofs.YtanbgdhmfjgihaaGreatDoor
open Go.RowKit

set_option maxHeartbeats 3200000 in
set_option maxRecDepth 20000 in
theorem cursorRaw (sp k n cl : Nat) (u v z : Int) (pl : Option Addr) (nm : ByteArray) (w : World) (hk : k < 6)
    (hn : ∀ W, Calls Tryz.prog 53 #[.string nm] W fun e w' => e = .returned (.tuple #[.int .i64 k, .bool true]) ∧ Low W.heap.size W w')
    (hv : ∀ W, Calls Tryz.prog 43 #[.int .i64 k] W fun e w' => e = .returned (.agg #[.int .i64 u, .int .i64 v, .int .i64 z]) ∧ Low W.heap.size W w')
    (kl : w.cell? ⟨sp, 2 + k, none⟩ = some (.slice pl n cl)) :
    Calls Tryz.prog 20 #[.pointer (some ⟨sp, 0, none⟩), .string nm] w fun e w' => ∃ g, e = .returned (.tuple #[.pointer (some ⟨g, 0, none⟩), .int .i64 0]) ∧ w.heap.size ≤ g ∧ Low w.heap.size w w' ∧ w'.heap[g]? = some (.cells #[.pointer (some ⟨sp, 0, none⟩), .slice pl n cl, .int .i64 u, .int .i64 v, .int .i64 z, .int .i64 0, .int .i64 0, .int .i64 0, .int .i64 0, .int .i64 0, .int .i64 0, .int .i64 0] 93) := by
  have HL : Hid (∀ W, Low w.heap.size w W → W.cell? ⟨sp, 2 + k, none⟩ = some (.slice pl n cl)) := Lib.hid fun W h => (h.cell (p := ⟨sp, 2 + k, none⟩) (World.block_lt_of_cell? w _ kl)).trans kl
  have HV := hv
  have hki : (k : Int) < 6 := by omega
  clear kl hv
  go_enter Tryz.func20, Tryz.ntmps20
  go_upto_region 4 with (go_at_call 53; (with_reducible refine (hn _).mono ?_); rintro e0 w3 ⟨rfl, b0⟩)
  refine wp_region_held_drew (S := fun W => Low w.heap.size w W) (by kernel_rfl) b0.drew (fun hHeld => ?_)
  refine wpAnyH_take (i := 0) (v := .pointer (some ⟨sp, 0, none⟩)) rfl (by kernel_rfl) (by kernel_rfl) (by kernel_rfl) (fun _ _ _ h => h) (Or.inl ⟨by rfl, fun W _ => by go_simp⟩) hHeld ?_
  try simp only [Act.put, List.getElem_toArray, List.getElem_cons_zero, List.setIfInBounds_toArray, List.set_cons_zero, List.set_cons_succ]
  refine wpAnyH_take (i := 1) (v := .pointer (some ⟨sp, 0, none⟩)) rfl (by kernel_rfl) (by kernel_rfl) (by kernel_rfl) (fun _ _ _ h => h) (Or.inl ⟨by rfl, fun W _ => by go_simp⟩) hHeld ?_
  try simp only [Act.put, List.getElem_toArray, List.getElem_cons_succ, List.getElem_cons_zero, List.setIfInBounds_toArray, List.set_cons_zero, List.set_cons_succ]
  refine wpAnyH_take (i := 2) (v := .int .i64 k) rfl (by kernel_rfl) (by kernel_rfl) (by kernel_rfl) (fun _ _ _ h => h) (Or.inl ⟨by rfl, fun W _ => by go_simp⟩) hHeld ?_
  try simp only [Act.put, List.getElem_toArray, List.getElem_cons_succ, List.getElem_cons_zero, List.setIfInBounds_toArray, List.set_cons_zero, List.set_cons_succ]
  refine wpAnyH_take (i := 3) (v := .pointer (some ⟨sp, 0, none⟩)) rfl (by kernel_rfl) (by kernel_rfl) (by kernel_rfl) (fun _ _ _ h => h) (Or.inl ⟨by rfl, fun W _ => by go_simp⟩) hHeld ?_
  try simp only [Act.put, List.getElem_toArray, List.getElem_cons_succ, List.getElem_cons_zero, List.setIfInBounds_toArray, List.set_cons_zero, List.set_cons_succ]
  refine wpAnyH_take (i := 4) (v := .pointer (some ⟨sp, 2, none⟩)) rfl (by kernel_rfl) (by kernel_rfl) (by kernel_rfl) (fun _ _ _ h => h) (Or.inl ⟨by rfl, fun W _ => by go_simp⟩) hHeld ?_
  try simp only [Act.put, List.getElem_toArray, List.getElem_cons_succ, List.getElem_cons_zero, List.setIfInBounds_toArray, List.set_cons_zero, List.set_cons_succ]
  refine wpAnyH_take (i := 5) (v := .pointer (some ⟨sp, 2 + k, none⟩)) rfl (by kernel_rfl) (by kernel_rfl) (by kernel_rfl) (fun _ _ _ h => h) (Or.inl ⟨by rfl, fun W _ => by go_simp⟩) hHeld ?_
  try simp only [Act.put, List.getElem_toArray, List.getElem_cons_succ, List.getElem_cons_zero, List.setIfInBounds_toArray, List.set_cons_zero, List.set_cons_succ]
  refine wpAnyH_take (i := 6) (v := .slice pl n cl) rfl (by kernel_rfl) (by kernel_rfl) (by kernel_rfl) (fun _ _ _ h => h) (Or.inl ⟨by rfl, fun W h => by have c0 := HL.out W h; go_simp⟩) hHeld ?_
  try simp only [Act.put, List.getElem_toArray, List.getElem_cons_succ, List.getElem_cons_zero, List.setIfInBounds_toArray, List.set_cons_zero, List.set_cons_succ]
  refine wpAnyH_take (i := 7) (v := .int .i64 k) rfl (by kernel_rfl) (by kernel_rfl) (by kernel_rfl) (fun _ _ _ h => h) (Or.inl ⟨by rfl, fun W _ => by go_simp⟩) hHeld ?_
  try simp only [Act.put, List.getElem_toArray, List.getElem_cons_succ, List.getElem_cons_zero, List.setIfInBounds_toArray, List.set_cons_zero, List.set_cons_succ]
  refine wpAnyH_ready (rs := [8]) (by kernel_rfl) (by simp) ?_
  refine AllReadyH.cons rfl (fun K hK => ?_) AllReadyH.nil
  rw [if_pos (by rfl)]
  go_simp
  refine (HV _).mono ?_
  rintro e0 w3 ⟨rfl, hb3⟩
  have hH2 := low_any hHeld hb3 hHeld.size
  clear hb3
  refine hK.out _ _ hH2 (fun hH2 => ?_)
  clear hK K
  try simp only [Act.put, List.getElem_toArray, List.getElem_cons_succ, List.getElem_cons_zero, List.setIfInBounds_toArray, List.set_cons_zero, List.set_cons_succ]
  refine wpAnyH_take (i := 9) (v := .agg #[.pointer (some ⟨sp, 0, none⟩), .slice pl n cl, .int .i64 u, .int .i64 v, .int .i64 z, .int .i64 0, .int .i64 0, .int .i64 0, .int .i64 0, .int .i64 0, .int .i64 0, .int .i64 0]) rfl (by kernel_rfl) (by kernel_rfl) (by kernel_rfl) (fun _ _ _ h => h) (Or.inl ⟨by rfl, fun W _ => by go_simp⟩) hH2 ?_
  try simp only [Act.put, List.getElem_toArray, List.getElem_cons_succ, List.getElem_cons_zero, List.setIfInBounds_toArray, List.set_cons_zero, List.set_cons_succ]
  refine wpAnyH_ready (rs := [10]) (by kernel_rfl) (by simp) ?_
  refine AllReadyH.cons rfl (fun K hK => ?_) AllReadyH.nil
  (try rw [if_pos (by rfl)])
  go_simp
  have hH3 := hH2.alloc (o := .cells #[.pointer (some ⟨sp, 0, none⟩), .slice pl n cl, .int .i64 u, .int .i64 v, .int .i64 z, .int .i64 0, .int .i64 0, .int .i64 0, .int .i64 0, .int .i64 0, .int .i64 0, .int .i64 0] 93) hH2.size
  have hcur : (w3.alloc (.cells #[.pointer (some ⟨sp, 0, none⟩), .slice pl n cl, .int .i64 u, .int .i64 v, .int .i64 z, .int .i64 0, .int .i64 0, .int .i64 0, .int .i64 0, .int .i64 0, .int .i64 0, .int .i64 0] 93)).heap[w3.heap.size]? = some (.cells #[.pointer (some ⟨sp, 0, none⟩), .slice pl n cl, .int .i64 u, .int .i64 v, .int .i64 z, .int .i64 0, .int .i64 0, .int .i64 0, .int .i64 0, .int .i64 0, .int .i64 0, .int .i64 0] 93) := heap_new _ _ rfl
  have hge := hH2.size
  generalize w3.alloc (.cells #[.pointer (some ⟨sp, 0, none⟩), .slice pl n cl, .int .i64 u, .int .i64 v, .int .i64 z, .int .i64 0, .int .i64 0, .int .i64 0, .int .i64 0, .int .i64 0, .int .i64 0, .int .i64 0] 93) = w4 at *
  generalize w3.heap.size = gg at *
  refine hK.out _ _ hH3 (fun _ => ?_)
  clear hK K
  refine wpAnyH_take (i := 11) (v := .pointer (some ⟨gg, 0, none⟩)) rfl (by kernel_rfl) (by kernel_rfl) (by kernel_rfl) (fun _ _ _ h => h) (Or.inl ⟨by rfl, fun W _ => by go_simp⟩) hH3 ?_
  try simp only [Act.put, List.getElem_toArray, List.getElem_cons_succ, List.getElem_cons_zero, List.setIfInBounds_toArray, List.set_cons_zero, List.set_cons_succ]
  refine wpAnyH_take (i := 12) (v := .int .i64 0) rfl (by kernel_rfl) (by kernel_rfl) (by kernel_rfl) (fun _ _ _ h => h) (Or.inl ⟨by rfl, fun W _ => by go_simp⟩) hH3 ?_
  try simp only [Act.put, List.getElem_toArray, List.getElem_cons_succ, List.getElem_cons_zero, List.setIfInBounds_toArray, List.set_cons_zero, List.set_cons_succ]
  refine wpAnyH_done (by kernel_rfl) ?_ _
  go_wp2_with fail
  exact bodyPost_ret (results_tmp2 Tryz.results20 _ _ _) rfl ⟨gg, rfl, hge, hH3, hcur⟩
/-- A cursor that was just made. -/
def newCur (sp : Nat) (pl : Option Addr) (n cl k : Nat) : CS := ⟨sp, pl, n, cl, (lev k).1, (lev k).2.1, (lev k).2.2, 0, 0, 0, 0, 0, 0, 0⟩
theorem cursorC {W W2 : World} {sp : Nat} {s : SM} {k : Nat} (h : StoreAt W sp s) (b : Below W.heap.size W W2) (ok : SMok s) (so : SMsort s) (hk : k < 6) :
    Calls Tryz.prog 20 #[.pointer (some ⟨sp, 0, none⟩), .string (onm k)] W2 fun e w' => ∃ g c, e = .returned (.tuple #[.pointer (some ⟨g, 0, none⟩), .int .i64 0]) ∧ Low W2.heap.size W2 w' ∧ W2.heap.size ≤ g ∧ (∃ pl n cl, c = newCur sp pl n cl k) ∧ Stand W s w' g c k := by
  obtain ⟨pv, pr, cv, cr, pp, cc, h0⟩ := h
  have h0' := (b.block _ (lt_of_heap h0.h)).trans h0.h
  have kl : W2.cell? ⟨sp, 2 + k, none⟩ = some (.slice (pp k) (s.ls k).length (cc k)) := by
    match k, hk with
    | 0, _ => exact cell_of h0' 2 rfl
    | 1, _ => exact cell_of h0' 3 rfl
    | 2, _ => exact cell_of h0' 4 rfl
    | 3, _ => exact cell_of h0' 5 rfl
    | 4, _ => exact cell_of h0' 6 rfl
    | 5, _ => exact cell_of h0' 7 rfl
  refine (cursorRaw sp k (s.ls k).length (cc k) _ _ _ (pp k) (onm k) W2 hk (fun w => namedAt k hk w) (fun w => levelsAt k hk w) kl).mono ?_
  rintro e w' ⟨g, rfl, hg, hb, hcur⟩
  refine ⟨g, newCur sp (pp k) (s.ls k).length (cc k) k, rfl, hb, hg, ⟨_, _, _, rfl⟩, ⟨⟨pv, pr, cv, cr, pp, cc, h0⟩, rfl, h0.l k hk, ?_, ?_, ?_, Nat.le_trans b.size hg, below_any b hb.is b.size, hcur⟩, ?_, ok, so, hk⟩
  · show (lev k).1 < 3
    match k, hk with
    | 0, _ | 1, _ | 2, _ | 3, _ | 4, _ | 5, _ => decide
  · show (lev k).2.1 < 3
    match k, hk with
    | 0, _ | 1, _ | 2, _ | 3, _ | 4, _ | 5, _ => decide
  · show (lev k).2.2 < 3
    match k, hk with
    | 0, _ | 1, _ | 2, _ | 3, _ | 4, _ | 5, _ => decide
  · exact ⟨Nat.zero_le _, rfl, rfl, rfl, rfl, fun q => absurd q (by show ¬ 1 ≤ 0; omega), fun q => absurd q (by show ¬ 2 ≤ 0; omega), fun q => absurd q (by show ¬ 3 ≤ 0; omega)⟩
section
variable {W0 W W' : World} {s : SM} {g k : Nat} {c : CS}
theorem SameList.refl (c : CS) : SameList c c := ⟨rfl, rfl, rfl, rfl, rfl, rfl⟩
theorem CS.next_alike (c : CS) (s : SM) (k : Nat) : SameList c (c.next s k) := by
  unfold CS.next
  split
  · exact c.go_alike _
  · exact SameList.refl c
theorem CS.opn_alike (c : CS) (s : SM) (k : Nat) : SameList c (c.opn s k) := by
  unfold CS.opn
  split
  · exact c.down_alike _ _
  · exact SameList.refl c
theorem Stand.next (h : Stand W0 s W g c k) (o : Only g W W') (B : Cur W' g (c.next s k)) : Stand W0 s W' g (c.next s k) k := ⟨h.at_.only (c.next_alike s k) o B, h.fit.next, h.ok, h.so, h.hk⟩
theorem Stand.opn (h : Stand W0 s W g c k) (o : Only g W W') (B : Cur W' g (c.opn s k)) : Stand W0 s W' g (c.opn s k) k := ⟨h.at_.only (c.opn_alike s k) o B, h.fit.opn, h.ok, h.so, h.hk⟩
theorem Stand.upp (h : Stand W0 s W g c k) (o : Only g W W') (B : Cur W' g c.up) : Stand W0 s W' g c.up k := ⟨h.at_.only c.up_alike o B, h.fit.up, h.ok, h.so, h.hk⟩
/-- Another cursor went on. -/
theorem Stand.other {e : Nat} (h : Stand W0 s W g c k) (o : Only e W W') (he : W0.heap.size ≤ e) (hne : g ≠ e) : Stand W0 s W' g c k :=
  ⟨⟨h.at_.S, h.at_.n, h.at_.l, h.at_.h0, h.at_.h1, h.at_.h2, h.at_.hg, below_only h.at_.b o he h.at_.b.size, h.at_.B.only o hne⟩, h.fit, h.ok, h.so, h.hk⟩
end
end Go.Proofs.YtanbgdhmfjgihaaGreatDoor
