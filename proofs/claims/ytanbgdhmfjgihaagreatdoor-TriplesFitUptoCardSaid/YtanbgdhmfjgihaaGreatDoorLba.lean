/- Texts of one kind, one behind the other: each says ahead of itself what it shows. -/
import Derived.Test.YtanbgdhmfjgihaaGreatDoorLaz
/- Whether a row has the same value wherever one variable is wanted twice. -/
namespace Go.Proofs.YtanbgdhmfjgihaaGreatDoor
open Go.RowKit

/-- One variable with a name, wanted twice. -/
def twice (vi vj : V6) : Bool := decide (vi.k = 0) && (decide (vj.k = 0) && (!vi.t.toList.isEmpty && (vi.t.toList == vj.t.toList)))
def pairOk (vi vj : V6) (ri rj : Int) : Bool := !(twice vi vj && (ri != rj))
def joinP (v0 v1 v2 : V6) (r0 r1 r2 : Int) : Bool := pairOk v1 v0 r1 r0 && (pairOk v2 v0 r2 r0 && pairOk v2 v1 r2 r1)
theorem pair_no {vi vj : V6} (ri rj : Int) (h : twice vi vj = false) : pairOk vi vj ri rj = true := by unfold pairOk; rw [h]; rfl
theorem pair_eq {vi vj : V6} {ri rj : Int} (h : ri = rj) : pairOk vi vj ri rj = true := by unfold pairOk; rw [h]; simp
theorem pair_bad {vi vj : V6} {ri rj : Int} (h : twice vi vj = true) (e : ri ≠ rj) : pairOk vi vj ri rj = false := by unfold pairOk; rw [h]; simp [e]
theorem twice_a {vi : V6} (vj : V6) (h : false = decide (vi.k = 0)) : twice vi vj = false := by unfold twice; rw [← h]; rfl
theorem twice_b (vi : V6) {vj : V6} (h : false = decide (vj.k = 0)) : twice vi vj = false := by unfold twice; rw [← h]; simp
theorem twice_c {vi : V6} (vj : V6) (h : vi.t.toList.isEmpty = true) : twice vi vj = false := by unfold twice; rw [h]; simp
theorem twice_d {vi vj : V6} (h : (vi.t.toList == vj.t.toList) = false) : twice vi vj = false := by unfold twice; rw [h]; simp
theorem twice_e {vi vj : V6} (h1 : true = decide (vi.k = 0)) (h2 : true = decide (vj.k = 0)) (h3 : vi.t.toList.isEmpty = false) (h4 : (vi.t.toList == vj.t.toList) = true) : twice vi vj = true := by unfold twice; rw [← h1, ← h2, h3, h4]; rfl
set_option maxHeartbeats 12800000 in
set_option maxRecDepth 20000 in
theorem joinAt (v0 v1 v2 : V6) (r0 r1 r2 : Int) (w : World) : Calls Tryz.prog 90 #[.agg #[.int .i64 v0.k, .bool v0.b, .int .i64 v0.n, .string v0.t, .string v0.x, .slice v0.p v0.len v0.cap, .int .i64 v1.k, .bool v1.b, .int .i64 v1.n, .string v1.t, .string v1.x, .slice v1.p v1.len v1.cap, .int .i64 v2.k, .bool v2.b, .int .i64 v2.n, .string v2.t, .string v2.x, .slice v2.p v2.len v2.cap], .agg #[.int .i64 r0, .int .i64 r1, .int .i64 r2]] w fun e w' => e = .returned (.bool (joinP v0 v1 v2 r0 r1 r2)) ∧ Below w.heap.size w w' := by
  obtain ⟨W0, hW0⟩ : ∃ W0, W0 = (w.alloc (.cells #[.int .i64 v0.k, .bool v0.b, .int .i64 v0.n, .string v0.t, .string v0.x, .slice v0.p v0.len v0.cap, .int .i64 v1.k, .bool v1.b, .int .i64 v1.n, .string v1.t, .string v1.x, .slice v1.p v1.len v1.cap, .int .i64 v2.k, .bool v2.b, .int .i64 v2.n, .string v2.t, .string v2.x, .slice v2.p v2.len v2.cap] 63)).alloc (.cells #[.int .i64 r0, .int .i64 r1, .int .i64 r2] 81) := ⟨_, rfl⟩
  have x0 : Below w.heap.size w W0 := by rw [hW0]; exact below2 _ _ _
  have way0 : Way W0 w.heap.size v0 v1 v2 := by rw [hW0]; exact heap_old _ (heap_new _ _ rfl)
  have R0 : W0.heap[w.heap.size + 1]? = some (.cells #[.int .i64 r0, .int .i64 r1, .int .i64 r2] 81) := by rw [hW0]; exact heap_new _ _ (by simp)
  obtain ⟨p, hp⟩ : ∃ p, p = joinP v0 v1 v2 r0 r1 r2 := ⟨_, rfl⟩
  rw [← hp]
  obtain ⟨b0, hb0⟩ : ∃ b, b = decide (v0.k = 0) := ⟨_, rfl⟩
  have V0 := Lib.hid (fun W => varAt v0 b0 hb0 W)
  have D0 := Lib.hid hb0
  clear hb0
  obtain ⟨b1, hb1⟩ : ∃ b, b = decide (v1.k = 0) := ⟨_, rfl⟩
  have V1 := Lib.hid (fun W => varAt v1 b1 hb1 W)
  have D1 := Lib.hid hb1
  clear hb1
  obtain ⟨b2, hb2⟩ : ∃ b, b = decide (v2.k = 0) := ⟨_, rfl⟩
  have V2 := Lib.hid (fun W => varAt v2 b2 hb2 W)
  have D2 := Lib.hid hb2
  clear hb2
  have HW := Lib.hid hW0
  have HB0 := Lib.hid x0
  have HP := Lib.hid hp
  have HY := Lib.hid way0
  have HR := Lib.hid R0
  clear hW0 x0 hp
  go_enter Tryz.func90, Tryz.ntmps90
  go_upto_region 2 with ((with_reducible refine wpList_load63 (.tmp 2) w.heap.size v0 v1 v2 (HW.out ▸ way0) ?_ ?_ ?_ ?_); rfl; rfl; rfl)
  rw [← HW.out]
  clear way0 R0
  go_loopg [11] 3 (fun gg s11 wr => ∃ i : Nat, i + gg = 3 ∧ s11 = .int .i64 i ∧ Hid (Below W0.heap.size W0 wr) ∧ (i = 0 ∨ i = 1 ∨ (i = 2 ∧ Hid (pairOk v1 v0 r1 r0 = true)) ∨ (i = 3 ∧ Hid (p = true))))
  case atStart => exact ⟨0, rfl, rfl, Lib.hid (Below.refl _ _), .inl rfl⟩
  case round =>
    obtain ⟨i, hig, rfl, HB, rfl | rfl | ⟨rfl, HP1⟩ | ⟨rfl, HP2⟩⟩ := hrel
    · have hix := fun w => idx63a v0 v1 v2 w
      go_upto_region 4 with ((with_reducible refine wpList_store6 (k' := v0.k) (b' := v0.b) (n' := v0.n) (t' := v0.t) (x' := v0.x) (p' := v0.p) (len' := v0.len) (cap' := v0.cap) (.tmp 6) (.tmp 14) wr.heap.size (six_new _ rfl) ?_ ?_ ?_ ?_ ?_); rfl; rfl; rfl; rfl; intro w5 hvw5 uw5)
      have z5 : Below wr.heap.size wr w5 := below_only (below1 wr _) hvw5 (Nat.le_refl _) (by simp)
      have HB5 := Lib.hid (HB.out.trans (z5.mono HB.out.size))
      have HS5 := Lib.hid uw5
      clear z5 hvw5 hix uw5
      generalize wr.heap.size = B5 at *
      go_wp2_with fail
      go_loopg [18] 0 (fun gg s18 wq => ∃ j : Nat, j + gg = 0 ∧ s18 = .int .i64 j ∧ Hid (Below W0.heap.size W0 wq) ∧ Hid (Below w5.heap.size w5 wq) ∧ (j = 0))
      case atStart => exact ⟨0, rfl, rfl, HB5, Lib.hid (Below.refl _ _), rfl⟩
      case round =>
        obtain ⟨j, hjg, rfl, HBq, HCq, rfl⟩ := hrel
        · go_wp2_with fail
          go_roundg (3 - 1)
          case measure => omega
          case rel => exact ⟨1, by omega, by go_num, HBq, .inr (.inl rfl)⟩
    · have hix := fun w => idx63b v0 v1 v2 w
      go_upto_region 4 with ((with_reducible refine wpList_store6 (k' := v1.k) (b' := v1.b) (n' := v1.n) (t' := v1.t) (x' := v1.x) (p' := v1.p) (len' := v1.len) (cap' := v1.cap) (.tmp 6) (.tmp 14) wr.heap.size (six_new _ rfl) ?_ ?_ ?_ ?_ ?_); rfl; rfl; rfl; rfl; intro w5 hvw5 uw5)
      have z5 : Below wr.heap.size wr w5 := below_only (below1 wr _) hvw5 (Nat.le_refl _) (by simp)
      have HB5 := Lib.hid (HB.out.trans (z5.mono HB.out.size))
      have HS5 := Lib.hid uw5
      clear z5 hvw5 hix uw5
      generalize wr.heap.size = B5 at *
      go_wp2_with fail
      go_loopg [18] 1 (fun gg s18 wq => ∃ j : Nat, j + gg = 1 ∧ s18 = .int .i64 j ∧ Hid (Below W0.heap.size W0 wq) ∧ Hid (Below w5.heap.size w5 wq) ∧ (j = 0 ∨ (j = 1 ∧ Hid (pairOk v1 v0 r1 r0 = true))))
      case atStart => exact ⟨0, rfl, rfl, HB5, Lib.hid (Below.refl _ _), .inl rfl⟩
      case round =>
        obtain ⟨j, hjg, rfl, HBq, HCq, rfl | ⟨rfl, HQ1⟩⟩ := hrel
        · have RJ := (HY.out.below HBq.out).r0
          have S6 := (HS5.out).below HCq.out
          go_upto_region 7 with (first
            | ((with_reducible refine wpList_mid6 (.tmp 21) w.heap.size 0 v0 RJ ?_ ?_ ?_ ?_); rfl; rfl; rfl)
            | ((with_reducible refine wpList_store6 (k' := v0.k) (b' := v0.b) (n' := v0.n) (t' := v0.t) (x' := v0.x) (p' := v0.p) (len' := v0.len) (cap' := v0.cap) (.tmp 8) (.tmp 22) wr.heap.size (six_new _ rfl) ?_ ?_ ?_ ?_ ?_); rfl; rfl; rfl; rfl; intro w6 hvw6 uw6))
          replace S6 : Six w6 B5 v1.k v1.b v1.n v1.t v1.x v1.p v1.len v1.cap := S6.below (below_only (below1 wr _) hvw6 (Nat.le_refl _) (by simp))
          have z6 : Below wr.heap.size wr w6 := below_only (below1 wr _) hvw6 (Nat.le_refl _) (by simp)
          have HB6 := Lib.hid (HBq.out.trans (z6.mono HBq.out.size))
          have HC6 := Lib.hid (HCq.out.trans (z6.mono HCq.out.size))
          clear z6 hvw6 RJ
          cases b1 with
          | false =>
            go_upto_region 8 with (first
              | ((with_reducible refine wpList_load6 (.tmp 6) B5 S6 ?_ ?_ ?_ ?_); rfl; rfl; rfl)
              | ((with_reducible refine wpList_load6g (.tmp 8) wr.heap.size S8b ?_ ?_ ?_ ?_); rfl; rfl; rfl)
              | (go_at_call 116; (with_reducible refine (V1.out _).mono ?_); rintro e w7 ⟨rfl, hb7⟩; have S6b := S6.below hb7; have S8b := uw6.below hb7; have H7 := Lib.hid hb7; clear hb7))
            have HB9 : Hid (Below W0.heap.size W0 w7) := Lib.hid (HB6.out.trans (H7.out.mono HB6.out.size))
            have HC9 : Hid (Below w5.heap.size w5 w7) := Lib.hid (HC6.out.trans (H7.out.mono HC6.out.size))
            have HPK : Hid (pairOk v1 v0 r1 r0 = true) := Lib.hid (pair_no _ _ (twice_a _ D1.out))
            clear S6 uw6
            go_quiet (fail)
            have HB10 := Lib.hid (below_drewN HB9.out nq)
            have HC10 := Lib.hid (below_drewN HC9.out nq)
            generalize World.drewN w7 nq = wz at *
            go_wp2_with fail
            go_roundg (gk - 1)
            case measure => omega
            case rel => exact ⟨1, by omega, by go_num, HB10, HC10, .inr ⟨rfl, HPK⟩⟩
          | true =>
            cases b0 with
            | false =>
              go_upto_region 8 with (first
                | ((with_reducible refine wpList_load6 (.tmp 6) B5 S6 ?_ ?_ ?_ ?_); rfl; rfl; rfl)
                | ((with_reducible refine wpList_load6g (.tmp 8) wr.heap.size S8b ?_ ?_ ?_ ?_); rfl; rfl; rfl)
                | (go_at_call 116; (with_reducible refine (V1.out _).mono ?_); rintro e w7 ⟨rfl, hb7⟩; have S6b := S6.below hb7; have S8b := uw6.below hb7; have H7 := Lib.hid hb7; clear hb7)
                | (go_at_call 116; (with_reducible refine (V0.out _).mono ?_); rintro e w8 ⟨rfl, hb8⟩; have S6c := S6b.below hb8; have S8c := S8b.below hb8; have k6 := cell_of S6c 3 rfl; have k8 := cell_of S8c 3 rfl; have H8 := Lib.hid hb8; clear hb8))
              have HB9 : Hid (Below W0.heap.size W0 w8) := Lib.hid ((HB6.out.trans (H7.out.mono HB6.out.size)).trans (H8.out.mono ((HB6.out.trans (H7.out.mono HB6.out.size)).size)))
              have HC9 : Hid (Below w5.heap.size w5 w8) := Lib.hid ((HC6.out.trans (H7.out.mono HC6.out.size)).trans (H8.out.mono ((HC6.out.trans (H7.out.mono HC6.out.size)).size)))
              have HPK : Hid (pairOk v1 v0 r1 r0 = true) := Lib.hid (pair_no _ _ (twice_b _ D0.out))
              clear S6 uw6
              go_quiet (fail)
              have HB10 := Lib.hid (below_drewN HB9.out nq)
              have HC10 := Lib.hid (below_drewN HC9.out nq)
              generalize World.drewN w8 nq = wz at *
              go_wp2_with fail
              go_roundg (gk - 1)
              case measure => omega
              case rel => exact ⟨1, by omega, by go_num, HB10, HC10, .inr ⟨rfl, HPK⟩⟩
            | true =>
              cases he : v1.t.toList.isEmpty with
              | true =>
                have he1 : v1.t.toList = [] := List.isEmpty_iff.1 he
                go_upto_region 8 with (first
                  | ((with_reducible refine wpList_load6 (.tmp 6) B5 S6 ?_ ?_ ?_ ?_); rfl; rfl; rfl)
                  | ((with_reducible refine wpList_load6g (.tmp 8) wr.heap.size S8b ?_ ?_ ?_ ?_); rfl; rfl; rfl)
                  | (go_at_call 116; (with_reducible refine (V1.out _).mono ?_); rintro e w7 ⟨rfl, hb7⟩; have S6b := S6.below hb7; have S8b := uw6.below hb7; have H7 := Lib.hid hb7; clear hb7)
                  | (go_at_call 116; (with_reducible refine (V0.out _).mono ?_); rintro e w8 ⟨rfl, hb8⟩; have S6c := S6b.below hb8; have S8c := S8b.below hb8; have k6 := cell_of S6c 3 rfl; have k8 := cell_of S8c 3 rfl; have H8 := Lib.hid hb8; clear hb8))
                have HB9 : Hid (Below W0.heap.size W0 w8) := Lib.hid ((HB6.out.trans (H7.out.mono HB6.out.size)).trans (H8.out.mono ((HB6.out.trans (H7.out.mono HB6.out.size)).size)))
                have HC9 : Hid (Below w5.heap.size w5 w8) := Lib.hid ((HC6.out.trans (H7.out.mono HC6.out.size)).trans (H8.out.mono ((HC6.out.trans (H7.out.mono HC6.out.size)).size)))
                have HPK : Hid (pairOk v1 v0 r1 r0 = true) := Lib.hid (pair_no _ _ (twice_c _ he))
                clear S6 uw6
                go_quiet (fail)
                have HB10 := Lib.hid (below_drewN HB9.out nq)
                have HC10 := Lib.hid (below_drewN HC9.out nq)
                generalize World.drewN w8 nq = wz at *
                go_wp2_with fail
                go_roundg (gk - 1)
                case measure => omega
                case rel => exact ⟨1, by omega, by go_num, HB10, HC10, .inr ⟨rfl, HPK⟩⟩
              | false =>
                cases hx : (v1.t.toList == v0.t.toList) with
                | false =>
                  go_upto_region 8 with (first
                    | ((with_reducible refine wpList_load6 (.tmp 6) B5 S6 ?_ ?_ ?_ ?_); rfl; rfl; rfl)
                    | ((with_reducible refine wpList_load6g (.tmp 8) wr.heap.size S8b ?_ ?_ ?_ ?_); rfl; rfl; rfl)
                    | (go_at_call 116; (with_reducible refine (V1.out _).mono ?_); rintro e w7 ⟨rfl, hb7⟩; have S6b := S6.below hb7; have S8b := uw6.below hb7; have H7 := Lib.hid hb7; clear hb7)
                    | (go_at_call 116; (with_reducible refine (V0.out _).mono ?_); rintro e w8 ⟨rfl, hb8⟩; have S6c := S6b.below hb8; have S8c := S8b.below hb8; have k6 := cell_of S6c 3 rfl; have k8 := cell_of S8c 3 rfl; have H8 := Lib.hid hb8; clear hb8))
                  have HB9 : Hid (Below W0.heap.size W0 w8) := Lib.hid ((HB6.out.trans (H7.out.mono HB6.out.size)).trans (H8.out.mono ((HB6.out.trans (H7.out.mono HB6.out.size)).size)))
                  have HC9 : Hid (Below w5.heap.size w5 w8) := Lib.hid ((HC6.out.trans (H7.out.mono HC6.out.size)).trans (H8.out.mono ((HC6.out.trans (H7.out.mono HC6.out.size)).size)))
                  have HPK : Hid (pairOk v1 v0 r1 r0 = true) := Lib.hid (pair_no _ _ (twice_d hx))
                  clear S6 uw6
                  go_quiet (fail)
                  have HB10 := Lib.hid (below_drewN HB9.out nq)
                  have HC10 := Lib.hid (below_drewN HC9.out nq)
                  generalize World.drewN w8 nq = wz at *
                  go_wp2_with fail
                  go_roundg (gk - 1)
                  case measure => omega
                  case rel => exact ⟨1, by omega, by go_num, HB10, HC10, .inr ⟨rfl, HPK⟩⟩
                | true =>
                  by_cases hrr : r1 = r0
                  · have e2 : (r1 != r0) = false := by simp [hrr]
                    have HRR := Lib.hid hrr
                    clear hrr
                    go_upto_region 8 with (first
                      | ((with_reducible refine wpList_load6 (.tmp 6) B5 S6 ?_ ?_ ?_ ?_); rfl; rfl; rfl)
                      | ((with_reducible refine wpList_load6g (.tmp 8) wr.heap.size S8b ?_ ?_ ?_ ?_); rfl; rfl; rfl)
                      | (go_at_call 116; (with_reducible refine (V1.out _).mono ?_); rintro e w7 ⟨rfl, hb7⟩; have S6b := S6.below hb7; have S8b := uw6.below hb7; have H7 := Lib.hid hb7; clear hb7)
                      | (go_at_call 116; (with_reducible refine (V0.out _).mono ?_); rintro e w8 ⟨rfl, hb8⟩; have S6c := S6b.below hb8; have S8c := S8b.below hb8; have k6 := cell_of S6c 3 rfl; have k8 := cell_of S8c 3 rfl; have H8 := Lib.hid hb8; clear hb8))
                    have HB9 : Hid (Below W0.heap.size W0 w8) := Lib.hid ((HB6.out.trans (H7.out.mono HB6.out.size)).trans (H8.out.mono ((HB6.out.trans (H7.out.mono HB6.out.size)).size)))
                    have HC9 : Hid (Below w5.heap.size w5 w8) := Lib.hid ((HC6.out.trans (H7.out.mono HC6.out.size)).trans (H8.out.mono ((HC6.out.trans (H7.out.mono HC6.out.size)).size)))
                    have HPK : Hid (pairOk v1 v0 r1 r0 = true) := Lib.hid (pair_eq HRR.out)
                    have R9 := (HB9.out.block _ (lt_of_heap HR.out)).trans HR.out
                    have kr1 := cell_of R9 1 rfl
                    have kr0 := cell_of R9 0 rfl
                    clear S6 uw6
                    go_quiet (fail)
                    have HB10 := Lib.hid (below_drewN HB9.out nq)
                    have HC10 := Lib.hid (below_drewN HC9.out nq)
                    generalize World.drewN w8 nq = wz at *
                    go_wp2_with fail
                    go_roundg (gk - 1)
                    case measure => omega
                    case rel => exact ⟨1, by omega, by go_num, HB10, HC10, .inr ⟨rfl, HPK⟩⟩
                  · have e2 : (r1 != r0) = true := by simp [hrr]
                    have HRR := Lib.hid hrr
                    clear hrr
                    go_upto_region 8 with (first
                      | ((with_reducible refine wpList_load6 (.tmp 6) B5 S6 ?_ ?_ ?_ ?_); rfl; rfl; rfl)
                      | ((with_reducible refine wpList_load6g (.tmp 8) wr.heap.size S8b ?_ ?_ ?_ ?_); rfl; rfl; rfl)
                      | (go_at_call 116; (with_reducible refine (V1.out _).mono ?_); rintro e w7 ⟨rfl, hb7⟩; have S6b := S6.below hb7; have S8b := uw6.below hb7; have H7 := Lib.hid hb7; clear hb7)
                      | (go_at_call 116; (with_reducible refine (V0.out _).mono ?_); rintro e w8 ⟨rfl, hb8⟩; have S6c := S6b.below hb8; have S8c := S8b.below hb8; have k6 := cell_of S6c 3 rfl; have k8 := cell_of S8c 3 rfl; have H8 := Lib.hid hb8; clear hb8))
                    have HB9 : Hid (Below W0.heap.size W0 w8) := Lib.hid ((HB6.out.trans (H7.out.mono HB6.out.size)).trans (H8.out.mono ((HB6.out.trans (H7.out.mono HB6.out.size)).size)))
                    have HC9 : Hid (Below w5.heap.size w5 w8) := Lib.hid ((HC6.out.trans (H7.out.mono HC6.out.size)).trans (H8.out.mono ((HC6.out.trans (H7.out.mono HC6.out.size)).size)))
                    have HPK : Hid (pairOk v1 v0 r1 r0 = false) := Lib.hid (pair_bad (twice_e D1.out D0.out he hx) HRR.out)
                    have R9 := (HB9.out.block _ (lt_of_heap HR.out)).trans HR.out
                    have kr1 := cell_of R9 1 rfl
                    have kr0 := cell_of R9 0 rfl
                    clear S6 uw6
                    go_quiet (fail)
                    have HB10 := Lib.hid (below_drewN HB9.out nq)
                    generalize World.drewN w8 nq = wz at *
                    go_wp2_with fail
                    go_ret
                    exact ⟨by rw [HP.out, show joinP v0 v1 v2 r0 r1 r2 = false from by unfold joinP; rw [HPK.out]; rfl]; rfl, HB0.out.trans (HB10.out.mono HB0.out.size)⟩
        · go_wp2_with fail
          go_roundg (3 - 2)
          case measure => omega
          case rel => exact ⟨2, by omega, by go_num, HBq, .inr (.inr (.inl ⟨rfl, HQ1⟩))⟩
    · have hix := fun w => idx63c v0 v1 v2 w
      go_upto_region 4 with ((with_reducible refine wpList_store6 (k' := v2.k) (b' := v2.b) (n' := v2.n) (t' := v2.t) (x' := v2.x) (p' := v2.p) (len' := v2.len) (cap' := v2.cap) (.tmp 6) (.tmp 14) wr.heap.size (six_new _ rfl) ?_ ?_ ?_ ?_ ?_); rfl; rfl; rfl; rfl; intro w5 hvw5 uw5)
      have z5 : Below wr.heap.size wr w5 := below_only (below1 wr _) hvw5 (Nat.le_refl _) (by simp)
      have HB5 := Lib.hid (HB.out.trans (z5.mono HB.out.size))
      have HS5 := Lib.hid uw5
      clear z5 hvw5 hix uw5
      generalize wr.heap.size = B5 at *
      go_wp2_with fail
      go_loopg [18] 2 (fun gg s18 wq => ∃ j : Nat, j + gg = 2 ∧ s18 = .int .i64 j ∧ Hid (Below W0.heap.size W0 wq) ∧ Hid (Below w5.heap.size w5 wq) ∧ (j = 0 ∨ (j = 1 ∧ Hid (pairOk v2 v0 r2 r0 = true)) ∨ (j = 2 ∧ Hid (pairOk v2 v0 r2 r0 = true) ∧ Hid (pairOk v2 v1 r2 r1 = true))))
      case atStart => exact ⟨0, rfl, rfl, HB5, Lib.hid (Below.refl _ _), .inl rfl⟩
      case round =>
        obtain ⟨j, hjg, rfl, HBq, HCq, rfl | ⟨rfl, HQ1⟩ | ⟨rfl, HQ1, HQ2⟩⟩ := hrel
        · have RJ := (HY.out.below HBq.out).r0
          have S6 := (HS5.out).below HCq.out
          go_upto_region 7 with (first
            | ((with_reducible refine wpList_mid6 (.tmp 21) w.heap.size 0 v0 RJ ?_ ?_ ?_ ?_); rfl; rfl; rfl)
            | ((with_reducible refine wpList_store6 (k' := v0.k) (b' := v0.b) (n' := v0.n) (t' := v0.t) (x' := v0.x) (p' := v0.p) (len' := v0.len) (cap' := v0.cap) (.tmp 8) (.tmp 22) wr.heap.size (six_new _ rfl) ?_ ?_ ?_ ?_ ?_); rfl; rfl; rfl; rfl; intro w6 hvw6 uw6))
          replace S6 : Six w6 B5 v2.k v2.b v2.n v2.t v2.x v2.p v2.len v2.cap := S6.below (below_only (below1 wr _) hvw6 (Nat.le_refl _) (by simp))
          have z6 : Below wr.heap.size wr w6 := below_only (below1 wr _) hvw6 (Nat.le_refl _) (by simp)
          have HB6 := Lib.hid (HBq.out.trans (z6.mono HBq.out.size))
          have HC6 := Lib.hid (HCq.out.trans (z6.mono HCq.out.size))
          clear z6 hvw6 RJ
          cases b2 with
          | false =>
            go_upto_region 8 with (first
              | ((with_reducible refine wpList_load6 (.tmp 6) B5 S6 ?_ ?_ ?_ ?_); rfl; rfl; rfl)
              | ((with_reducible refine wpList_load6g (.tmp 8) wr.heap.size S8b ?_ ?_ ?_ ?_); rfl; rfl; rfl)
              | (go_at_call 116; (with_reducible refine (V2.out _).mono ?_); rintro e w7 ⟨rfl, hb7⟩; have S6b := S6.below hb7; have S8b := uw6.below hb7; have H7 := Lib.hid hb7; clear hb7))
            have HB9 : Hid (Below W0.heap.size W0 w7) := Lib.hid (HB6.out.trans (H7.out.mono HB6.out.size))
            have HC9 : Hid (Below w5.heap.size w5 w7) := Lib.hid (HC6.out.trans (H7.out.mono HC6.out.size))
            have HPK : Hid (pairOk v2 v0 r2 r0 = true) := Lib.hid (pair_no _ _ (twice_a _ D2.out))
            clear S6 uw6
            go_quiet (fail)
            have HB10 := Lib.hid (below_drewN HB9.out nq)
            have HC10 := Lib.hid (below_drewN HC9.out nq)
            generalize World.drewN w7 nq = wz at *
            go_wp2_with fail
            go_roundg (gk - 1)
            case measure => omega
            case rel => exact ⟨1, by omega, by go_num, HB10, HC10, .inr (.inl ⟨rfl, HPK⟩)⟩
          | true =>
            cases b0 with
            | false =>
              go_upto_region 8 with (first
                | ((with_reducible refine wpList_load6 (.tmp 6) B5 S6 ?_ ?_ ?_ ?_); rfl; rfl; rfl)
                | ((with_reducible refine wpList_load6g (.tmp 8) wr.heap.size S8b ?_ ?_ ?_ ?_); rfl; rfl; rfl)
                | (go_at_call 116; (with_reducible refine (V2.out _).mono ?_); rintro e w7 ⟨rfl, hb7⟩; have S6b := S6.below hb7; have S8b := uw6.below hb7; have H7 := Lib.hid hb7; clear hb7)
                | (go_at_call 116; (with_reducible refine (V0.out _).mono ?_); rintro e w8 ⟨rfl, hb8⟩; have S6c := S6b.below hb8; have S8c := S8b.below hb8; have k6 := cell_of S6c 3 rfl; have k8 := cell_of S8c 3 rfl; have H8 := Lib.hid hb8; clear hb8))
              have HB9 : Hid (Below W0.heap.size W0 w8) := Lib.hid ((HB6.out.trans (H7.out.mono HB6.out.size)).trans (H8.out.mono ((HB6.out.trans (H7.out.mono HB6.out.size)).size)))
              have HC9 : Hid (Below w5.heap.size w5 w8) := Lib.hid ((HC6.out.trans (H7.out.mono HC6.out.size)).trans (H8.out.mono ((HC6.out.trans (H7.out.mono HC6.out.size)).size)))
              have HPK : Hid (pairOk v2 v0 r2 r0 = true) := Lib.hid (pair_no _ _ (twice_b _ D0.out))
              clear S6 uw6
              go_quiet (fail)
              have HB10 := Lib.hid (below_drewN HB9.out nq)
              have HC10 := Lib.hid (below_drewN HC9.out nq)
              generalize World.drewN w8 nq = wz at *
              go_wp2_with fail
              go_roundg (gk - 1)
              case measure => omega
              case rel => exact ⟨1, by omega, by go_num, HB10, HC10, .inr (.inl ⟨rfl, HPK⟩)⟩
            | true =>
              cases he : v2.t.toList.isEmpty with
              | true =>
                have he1 : v2.t.toList = [] := List.isEmpty_iff.1 he
                go_upto_region 8 with (first
                  | ((with_reducible refine wpList_load6 (.tmp 6) B5 S6 ?_ ?_ ?_ ?_); rfl; rfl; rfl)
                  | ((with_reducible refine wpList_load6g (.tmp 8) wr.heap.size S8b ?_ ?_ ?_ ?_); rfl; rfl; rfl)
                  | (go_at_call 116; (with_reducible refine (V2.out _).mono ?_); rintro e w7 ⟨rfl, hb7⟩; have S6b := S6.below hb7; have S8b := uw6.below hb7; have H7 := Lib.hid hb7; clear hb7)
                  | (go_at_call 116; (with_reducible refine (V0.out _).mono ?_); rintro e w8 ⟨rfl, hb8⟩; have S6c := S6b.below hb8; have S8c := S8b.below hb8; have k6 := cell_of S6c 3 rfl; have k8 := cell_of S8c 3 rfl; have H8 := Lib.hid hb8; clear hb8))
                have HB9 : Hid (Below W0.heap.size W0 w8) := Lib.hid ((HB6.out.trans (H7.out.mono HB6.out.size)).trans (H8.out.mono ((HB6.out.trans (H7.out.mono HB6.out.size)).size)))
                have HC9 : Hid (Below w5.heap.size w5 w8) := Lib.hid ((HC6.out.trans (H7.out.mono HC6.out.size)).trans (H8.out.mono ((HC6.out.trans (H7.out.mono HC6.out.size)).size)))
                have HPK : Hid (pairOk v2 v0 r2 r0 = true) := Lib.hid (pair_no _ _ (twice_c _ he))
                clear S6 uw6
                go_quiet (fail)
                have HB10 := Lib.hid (below_drewN HB9.out nq)
                have HC10 := Lib.hid (below_drewN HC9.out nq)
                generalize World.drewN w8 nq = wz at *
                go_wp2_with fail
                go_roundg (gk - 1)
                case measure => omega
                case rel => exact ⟨1, by omega, by go_num, HB10, HC10, .inr (.inl ⟨rfl, HPK⟩)⟩
              | false =>
                cases hx : (v2.t.toList == v0.t.toList) with
                | false =>
                  go_upto_region 8 with (first
                    | ((with_reducible refine wpList_load6 (.tmp 6) B5 S6 ?_ ?_ ?_ ?_); rfl; rfl; rfl)
                    | ((with_reducible refine wpList_load6g (.tmp 8) wr.heap.size S8b ?_ ?_ ?_ ?_); rfl; rfl; rfl)
                    | (go_at_call 116; (with_reducible refine (V2.out _).mono ?_); rintro e w7 ⟨rfl, hb7⟩; have S6b := S6.below hb7; have S8b := uw6.below hb7; have H7 := Lib.hid hb7; clear hb7)
                    | (go_at_call 116; (with_reducible refine (V0.out _).mono ?_); rintro e w8 ⟨rfl, hb8⟩; have S6c := S6b.below hb8; have S8c := S8b.below hb8; have k6 := cell_of S6c 3 rfl; have k8 := cell_of S8c 3 rfl; have H8 := Lib.hid hb8; clear hb8))
                  have HB9 : Hid (Below W0.heap.size W0 w8) := Lib.hid ((HB6.out.trans (H7.out.mono HB6.out.size)).trans (H8.out.mono ((HB6.out.trans (H7.out.mono HB6.out.size)).size)))
                  have HC9 : Hid (Below w5.heap.size w5 w8) := Lib.hid ((HC6.out.trans (H7.out.mono HC6.out.size)).trans (H8.out.mono ((HC6.out.trans (H7.out.mono HC6.out.size)).size)))
                  have HPK : Hid (pairOk v2 v0 r2 r0 = true) := Lib.hid (pair_no _ _ (twice_d hx))
                  clear S6 uw6
                  go_quiet (fail)
                  have HB10 := Lib.hid (below_drewN HB9.out nq)
                  have HC10 := Lib.hid (below_drewN HC9.out nq)
                  generalize World.drewN w8 nq = wz at *
                  go_wp2_with fail
                  go_roundg (gk - 1)
                  case measure => omega
                  case rel => exact ⟨1, by omega, by go_num, HB10, HC10, .inr (.inl ⟨rfl, HPK⟩)⟩
                | true =>
                  by_cases hrr : r2 = r0
                  · have e2 : (r2 != r0) = false := by simp [hrr]
                    have HRR := Lib.hid hrr
                    clear hrr
                    go_upto_region 8 with (first
                      | ((with_reducible refine wpList_load6 (.tmp 6) B5 S6 ?_ ?_ ?_ ?_); rfl; rfl; rfl)
                      | ((with_reducible refine wpList_load6g (.tmp 8) wr.heap.size S8b ?_ ?_ ?_ ?_); rfl; rfl; rfl)
                      | (go_at_call 116; (with_reducible refine (V2.out _).mono ?_); rintro e w7 ⟨rfl, hb7⟩; have S6b := S6.below hb7; have S8b := uw6.below hb7; have H7 := Lib.hid hb7; clear hb7)
                      | (go_at_call 116; (with_reducible refine (V0.out _).mono ?_); rintro e w8 ⟨rfl, hb8⟩; have S6c := S6b.below hb8; have S8c := S8b.below hb8; have k6 := cell_of S6c 3 rfl; have k8 := cell_of S8c 3 rfl; have H8 := Lib.hid hb8; clear hb8))
                    have HB9 : Hid (Below W0.heap.size W0 w8) := Lib.hid ((HB6.out.trans (H7.out.mono HB6.out.size)).trans (H8.out.mono ((HB6.out.trans (H7.out.mono HB6.out.size)).size)))
                    have HC9 : Hid (Below w5.heap.size w5 w8) := Lib.hid ((HC6.out.trans (H7.out.mono HC6.out.size)).trans (H8.out.mono ((HC6.out.trans (H7.out.mono HC6.out.size)).size)))
                    have HPK : Hid (pairOk v2 v0 r2 r0 = true) := Lib.hid (pair_eq HRR.out)
                    have R9 := (HB9.out.block _ (lt_of_heap HR.out)).trans HR.out
                    have kr2 := cell_of R9 2 rfl
                    have kr0 := cell_of R9 0 rfl
                    clear S6 uw6
                    go_quiet (fail)
                    have HB10 := Lib.hid (below_drewN HB9.out nq)
                    have HC10 := Lib.hid (below_drewN HC9.out nq)
                    generalize World.drewN w8 nq = wz at *
                    go_wp2_with fail
                    go_roundg (gk - 1)
                    case measure => omega
                    case rel => exact ⟨1, by omega, by go_num, HB10, HC10, .inr (.inl ⟨rfl, HPK⟩)⟩
                  · have e2 : (r2 != r0) = true := by simp [hrr]
                    have HRR := Lib.hid hrr
                    clear hrr
                    go_upto_region 8 with (first
                      | ((with_reducible refine wpList_load6 (.tmp 6) B5 S6 ?_ ?_ ?_ ?_); rfl; rfl; rfl)
                      | ((with_reducible refine wpList_load6g (.tmp 8) wr.heap.size S8b ?_ ?_ ?_ ?_); rfl; rfl; rfl)
                      | (go_at_call 116; (with_reducible refine (V2.out _).mono ?_); rintro e w7 ⟨rfl, hb7⟩; have S6b := S6.below hb7; have S8b := uw6.below hb7; have H7 := Lib.hid hb7; clear hb7)
                      | (go_at_call 116; (with_reducible refine (V0.out _).mono ?_); rintro e w8 ⟨rfl, hb8⟩; have S6c := S6b.below hb8; have S8c := S8b.below hb8; have k6 := cell_of S6c 3 rfl; have k8 := cell_of S8c 3 rfl; have H8 := Lib.hid hb8; clear hb8))
                    have HB9 : Hid (Below W0.heap.size W0 w8) := Lib.hid ((HB6.out.trans (H7.out.mono HB6.out.size)).trans (H8.out.mono ((HB6.out.trans (H7.out.mono HB6.out.size)).size)))
                    have HC9 : Hid (Below w5.heap.size w5 w8) := Lib.hid ((HC6.out.trans (H7.out.mono HC6.out.size)).trans (H8.out.mono ((HC6.out.trans (H7.out.mono HC6.out.size)).size)))
                    have HPK : Hid (pairOk v2 v0 r2 r0 = false) := Lib.hid (pair_bad (twice_e D2.out D0.out he hx) HRR.out)
                    have R9 := (HB9.out.block _ (lt_of_heap HR.out)).trans HR.out
                    have kr2 := cell_of R9 2 rfl
                    have kr0 := cell_of R9 0 rfl
                    clear S6 uw6
                    go_quiet (fail)
                    have HB10 := Lib.hid (below_drewN HB9.out nq)
                    generalize World.drewN w8 nq = wz at *
                    go_wp2_with fail
                    go_ret
                    exact ⟨by rw [HP.out, show joinP v0 v1 v2 r0 r1 r2 = false from by unfold joinP; rw [HPK.out]; simp]; rfl, HB0.out.trans (HB10.out.mono HB0.out.size)⟩
        · have RJ := (HY.out.below HBq.out).r1
          have S6 := (HS5.out).below HCq.out
          go_upto_region 7 with (first
            | ((with_reducible refine wpList_mid6 (.tmp 21) w.heap.size 6 v1 RJ ?_ ?_ ?_ ?_); rfl; rfl; rfl)
            | ((with_reducible refine wpList_store6 (k' := v1.k) (b' := v1.b) (n' := v1.n) (t' := v1.t) (x' := v1.x) (p' := v1.p) (len' := v1.len) (cap' := v1.cap) (.tmp 8) (.tmp 22) wr.heap.size (six_new _ rfl) ?_ ?_ ?_ ?_ ?_); rfl; rfl; rfl; rfl; intro w6 hvw6 uw6))
          replace S6 : Six w6 B5 v2.k v2.b v2.n v2.t v2.x v2.p v2.len v2.cap := S6.below (below_only (below1 wr _) hvw6 (Nat.le_refl _) (by simp))
          have z6 : Below wr.heap.size wr w6 := below_only (below1 wr _) hvw6 (Nat.le_refl _) (by simp)
          have HB6 := Lib.hid (HBq.out.trans (z6.mono HBq.out.size))
          have HC6 := Lib.hid (HCq.out.trans (z6.mono HCq.out.size))
          clear z6 hvw6 RJ
          cases b2 with
          | false =>
            go_upto_region 8 with (first
              | ((with_reducible refine wpList_load6 (.tmp 6) B5 S6 ?_ ?_ ?_ ?_); rfl; rfl; rfl)
              | ((with_reducible refine wpList_load6g (.tmp 8) wr.heap.size S8b ?_ ?_ ?_ ?_); rfl; rfl; rfl)
              | (go_at_call 116; (with_reducible refine (V2.out _).mono ?_); rintro e w7 ⟨rfl, hb7⟩; have S6b := S6.below hb7; have S8b := uw6.below hb7; have H7 := Lib.hid hb7; clear hb7))
            have HB9 : Hid (Below W0.heap.size W0 w7) := Lib.hid (HB6.out.trans (H7.out.mono HB6.out.size))
            have HC9 : Hid (Below w5.heap.size w5 w7) := Lib.hid (HC6.out.trans (H7.out.mono HC6.out.size))
            have HPK : Hid (pairOk v2 v1 r2 r1 = true) := Lib.hid (pair_no _ _ (twice_a _ D2.out))
            clear S6 uw6
            go_quiet (fail)
            have HB10 := Lib.hid (below_drewN HB9.out nq)
            have HC10 := Lib.hid (below_drewN HC9.out nq)
            generalize World.drewN w7 nq = wz at *
            go_wp2_with fail
            go_roundg (gk - 1)
            case measure => omega
            case rel => exact ⟨2, by omega, by go_num, HB10, HC10, .inr (.inr ⟨rfl, HQ1, HPK⟩)⟩
          | true =>
            cases b1 with
            | false =>
              go_upto_region 8 with (first
                | ((with_reducible refine wpList_load6 (.tmp 6) B5 S6 ?_ ?_ ?_ ?_); rfl; rfl; rfl)
                | ((with_reducible refine wpList_load6g (.tmp 8) wr.heap.size S8b ?_ ?_ ?_ ?_); rfl; rfl; rfl)
                | (go_at_call 116; (with_reducible refine (V2.out _).mono ?_); rintro e w7 ⟨rfl, hb7⟩; have S6b := S6.below hb7; have S8b := uw6.below hb7; have H7 := Lib.hid hb7; clear hb7)
                | (go_at_call 116; (with_reducible refine (V1.out _).mono ?_); rintro e w8 ⟨rfl, hb8⟩; have S6c := S6b.below hb8; have S8c := S8b.below hb8; have k6 := cell_of S6c 3 rfl; have k8 := cell_of S8c 3 rfl; have H8 := Lib.hid hb8; clear hb8))
              have HB9 : Hid (Below W0.heap.size W0 w8) := Lib.hid ((HB6.out.trans (H7.out.mono HB6.out.size)).trans (H8.out.mono ((HB6.out.trans (H7.out.mono HB6.out.size)).size)))
              have HC9 : Hid (Below w5.heap.size w5 w8) := Lib.hid ((HC6.out.trans (H7.out.mono HC6.out.size)).trans (H8.out.mono ((HC6.out.trans (H7.out.mono HC6.out.size)).size)))
              have HPK : Hid (pairOk v2 v1 r2 r1 = true) := Lib.hid (pair_no _ _ (twice_b _ D1.out))
              clear S6 uw6
              go_quiet (fail)
              have HB10 := Lib.hid (below_drewN HB9.out nq)
              have HC10 := Lib.hid (below_drewN HC9.out nq)
              generalize World.drewN w8 nq = wz at *
              go_wp2_with fail
              go_roundg (gk - 1)
              case measure => omega
              case rel => exact ⟨2, by omega, by go_num, HB10, HC10, .inr (.inr ⟨rfl, HQ1, HPK⟩)⟩
            | true =>
              cases he : v2.t.toList.isEmpty with
              | true =>
                have he1 : v2.t.toList = [] := List.isEmpty_iff.1 he
                go_upto_region 8 with (first
                  | ((with_reducible refine wpList_load6 (.tmp 6) B5 S6 ?_ ?_ ?_ ?_); rfl; rfl; rfl)
                  | ((with_reducible refine wpList_load6g (.tmp 8) wr.heap.size S8b ?_ ?_ ?_ ?_); rfl; rfl; rfl)
                  | (go_at_call 116; (with_reducible refine (V2.out _).mono ?_); rintro e w7 ⟨rfl, hb7⟩; have S6b := S6.below hb7; have S8b := uw6.below hb7; have H7 := Lib.hid hb7; clear hb7)
                  | (go_at_call 116; (with_reducible refine (V1.out _).mono ?_); rintro e w8 ⟨rfl, hb8⟩; have S6c := S6b.below hb8; have S8c := S8b.below hb8; have k6 := cell_of S6c 3 rfl; have k8 := cell_of S8c 3 rfl; have H8 := Lib.hid hb8; clear hb8))
                have HB9 : Hid (Below W0.heap.size W0 w8) := Lib.hid ((HB6.out.trans (H7.out.mono HB6.out.size)).trans (H8.out.mono ((HB6.out.trans (H7.out.mono HB6.out.size)).size)))
                have HC9 : Hid (Below w5.heap.size w5 w8) := Lib.hid ((HC6.out.trans (H7.out.mono HC6.out.size)).trans (H8.out.mono ((HC6.out.trans (H7.out.mono HC6.out.size)).size)))
                have HPK : Hid (pairOk v2 v1 r2 r1 = true) := Lib.hid (pair_no _ _ (twice_c _ he))
                clear S6 uw6
                go_quiet (fail)
                have HB10 := Lib.hid (below_drewN HB9.out nq)
                have HC10 := Lib.hid (below_drewN HC9.out nq)
                generalize World.drewN w8 nq = wz at *
                go_wp2_with fail
                go_roundg (gk - 1)
                case measure => omega
                case rel => exact ⟨2, by omega, by go_num, HB10, HC10, .inr (.inr ⟨rfl, HQ1, HPK⟩)⟩
              | false =>
                cases hx : (v2.t.toList == v1.t.toList) with
                | false =>
                  go_upto_region 8 with (first
                    | ((with_reducible refine wpList_load6 (.tmp 6) B5 S6 ?_ ?_ ?_ ?_); rfl; rfl; rfl)
                    | ((with_reducible refine wpList_load6g (.tmp 8) wr.heap.size S8b ?_ ?_ ?_ ?_); rfl; rfl; rfl)
                    | (go_at_call 116; (with_reducible refine (V2.out _).mono ?_); rintro e w7 ⟨rfl, hb7⟩; have S6b := S6.below hb7; have S8b := uw6.below hb7; have H7 := Lib.hid hb7; clear hb7)
                    | (go_at_call 116; (with_reducible refine (V1.out _).mono ?_); rintro e w8 ⟨rfl, hb8⟩; have S6c := S6b.below hb8; have S8c := S8b.below hb8; have k6 := cell_of S6c 3 rfl; have k8 := cell_of S8c 3 rfl; have H8 := Lib.hid hb8; clear hb8))
                  have HB9 : Hid (Below W0.heap.size W0 w8) := Lib.hid ((HB6.out.trans (H7.out.mono HB6.out.size)).trans (H8.out.mono ((HB6.out.trans (H7.out.mono HB6.out.size)).size)))
                  have HC9 : Hid (Below w5.heap.size w5 w8) := Lib.hid ((HC6.out.trans (H7.out.mono HC6.out.size)).trans (H8.out.mono ((HC6.out.trans (H7.out.mono HC6.out.size)).size)))
                  have HPK : Hid (pairOk v2 v1 r2 r1 = true) := Lib.hid (pair_no _ _ (twice_d hx))
                  clear S6 uw6
                  go_quiet (fail)
                  have HB10 := Lib.hid (below_drewN HB9.out nq)
                  have HC10 := Lib.hid (below_drewN HC9.out nq)
                  generalize World.drewN w8 nq = wz at *
                  go_wp2_with fail
                  go_roundg (gk - 1)
                  case measure => omega
                  case rel => exact ⟨2, by omega, by go_num, HB10, HC10, .inr (.inr ⟨rfl, HQ1, HPK⟩)⟩
                | true =>
                  by_cases hrr : r2 = r1
                  · have e2 : (r2 != r1) = false := by simp [hrr]
                    have HRR := Lib.hid hrr
                    clear hrr
                    go_upto_region 8 with (first
                      | ((with_reducible refine wpList_load6 (.tmp 6) B5 S6 ?_ ?_ ?_ ?_); rfl; rfl; rfl)
                      | ((with_reducible refine wpList_load6g (.tmp 8) wr.heap.size S8b ?_ ?_ ?_ ?_); rfl; rfl; rfl)
                      | (go_at_call 116; (with_reducible refine (V2.out _).mono ?_); rintro e w7 ⟨rfl, hb7⟩; have S6b := S6.below hb7; have S8b := uw6.below hb7; have H7 := Lib.hid hb7; clear hb7)
                      | (go_at_call 116; (with_reducible refine (V1.out _).mono ?_); rintro e w8 ⟨rfl, hb8⟩; have S6c := S6b.below hb8; have S8c := S8b.below hb8; have k6 := cell_of S6c 3 rfl; have k8 := cell_of S8c 3 rfl; have H8 := Lib.hid hb8; clear hb8))
                    have HB9 : Hid (Below W0.heap.size W0 w8) := Lib.hid ((HB6.out.trans (H7.out.mono HB6.out.size)).trans (H8.out.mono ((HB6.out.trans (H7.out.mono HB6.out.size)).size)))
                    have HC9 : Hid (Below w5.heap.size w5 w8) := Lib.hid ((HC6.out.trans (H7.out.mono HC6.out.size)).trans (H8.out.mono ((HC6.out.trans (H7.out.mono HC6.out.size)).size)))
                    have HPK : Hid (pairOk v2 v1 r2 r1 = true) := Lib.hid (pair_eq HRR.out)
                    have R9 := (HB9.out.block _ (lt_of_heap HR.out)).trans HR.out
                    have kr2 := cell_of R9 2 rfl
                    have kr1 := cell_of R9 1 rfl
                    clear S6 uw6
                    go_quiet (fail)
                    have HB10 := Lib.hid (below_drewN HB9.out nq)
                    have HC10 := Lib.hid (below_drewN HC9.out nq)
                    generalize World.drewN w8 nq = wz at *
                    go_wp2_with fail
                    go_roundg (gk - 1)
                    case measure => omega
                    case rel => exact ⟨2, by omega, by go_num, HB10, HC10, .inr (.inr ⟨rfl, HQ1, HPK⟩)⟩
                  · have e2 : (r2 != r1) = true := by simp [hrr]
                    have HRR := Lib.hid hrr
                    clear hrr
                    go_upto_region 8 with (first
                      | ((with_reducible refine wpList_load6 (.tmp 6) B5 S6 ?_ ?_ ?_ ?_); rfl; rfl; rfl)
                      | ((with_reducible refine wpList_load6g (.tmp 8) wr.heap.size S8b ?_ ?_ ?_ ?_); rfl; rfl; rfl)
                      | (go_at_call 116; (with_reducible refine (V2.out _).mono ?_); rintro e w7 ⟨rfl, hb7⟩; have S6b := S6.below hb7; have S8b := uw6.below hb7; have H7 := Lib.hid hb7; clear hb7)
                      | (go_at_call 116; (with_reducible refine (V1.out _).mono ?_); rintro e w8 ⟨rfl, hb8⟩; have S6c := S6b.below hb8; have S8c := S8b.below hb8; have k6 := cell_of S6c 3 rfl; have k8 := cell_of S8c 3 rfl; have H8 := Lib.hid hb8; clear hb8))
                    have HB9 : Hid (Below W0.heap.size W0 w8) := Lib.hid ((HB6.out.trans (H7.out.mono HB6.out.size)).trans (H8.out.mono ((HB6.out.trans (H7.out.mono HB6.out.size)).size)))
                    have HC9 : Hid (Below w5.heap.size w5 w8) := Lib.hid ((HC6.out.trans (H7.out.mono HC6.out.size)).trans (H8.out.mono ((HC6.out.trans (H7.out.mono HC6.out.size)).size)))
                    have HPK : Hid (pairOk v2 v1 r2 r1 = false) := Lib.hid (pair_bad (twice_e D2.out D1.out he hx) HRR.out)
                    have R9 := (HB9.out.block _ (lt_of_heap HR.out)).trans HR.out
                    have kr2 := cell_of R9 2 rfl
                    have kr1 := cell_of R9 1 rfl
                    clear S6 uw6
                    go_quiet (fail)
                    have HB10 := Lib.hid (below_drewN HB9.out nq)
                    generalize World.drewN w8 nq = wz at *
                    go_wp2_with fail
                    go_ret
                    exact ⟨by rw [HP.out, show joinP v0 v1 v2 r0 r1 r2 = false from by unfold joinP; rw [HPK.out]; simp]; rfl, HB0.out.trans (HB10.out.mono HB0.out.size)⟩
        · go_wp2_with fail
          go_roundg (3 - 3)
          case measure => omega
          case rel => exact ⟨3, by omega, by go_num, HBq, .inr (.inr (.inr ⟨rfl, Lib.hid (by rw [HP.out, joinP, HP1.out, HQ1.out, HQ2.out]; rfl)⟩))⟩
    · go_wp2_with fail
      go_ret
      exact ⟨by rw [HP2.out]; rfl, HB0.out.trans (HB.out.mono HB0.out.size)⟩
end Go.Proofs.YtanbgdhmfjgihaaGreatDoor
