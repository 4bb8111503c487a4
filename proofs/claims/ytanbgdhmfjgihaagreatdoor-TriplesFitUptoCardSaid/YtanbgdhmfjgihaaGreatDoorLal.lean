/- Texts of one kind, one behind the other: each says ahead of itself what it shows. -/
import Derived.Test.YtanbgdhmfjgihaaGreatDoorLak
/- How two values that go by their texts stand: kind 9. -/
namespace Go.Proofs.YtanbgdhmfjgihaaGreatDoor
open Go.RowKit

set_option maxRecDepth 20000 in
set_option maxHeartbeats 12800000 in
theorem withinText9 (lang k : Int) (b : Bool) (n : Int) (t x : ByteArray) (q : List Val) (p : Option Addr) (cap : Nat) (k2 : Int) (b2 : Bool) (n2 : Int) (t2 x2 : ByteArray) (q2 : List Val) (p2 : Option Addr) (cap2 : Nat) (w : World) (hk0 : k = 9) :
    Calls Tryz.prog 137 #[.int .i64 lang, .agg #[.int .i64 k, .bool b, .int .i64 n, .string t, .string x, .slice p q.length cap], .agg #[.int .i64 k2, .bool b2, .int .i64 n2, .string t2, .string x2, .slice p2 q2.length cap2]] w fun e w' => e = .returned (.int .i64 (lexI (bytesI t.toList t2.toList) (bytesI x.toList x2.toList))) ∧ Low w.heap.size w w' := by
  obtain ⟨W0, hW0⟩ : ∃ W0, W0 = ((w.alloc (.cells #[.int .i64 lang] 3)).alloc (.cells #[.int .i64 k, .bool b, .int .i64 n, .string t, .string x, .slice p q.length cap] 39)).alloc (.cells #[.int .i64 k2, .bool b2, .int .i64 n2, .string t2, .string x2, .slice p2 q2.length cap2] 39) := ⟨_, rfl⟩
  have S4 : Six W0 (w.heap.size + 1) k b n t x p q.length cap := by rw [hW0]; exact (six_new _ (by simp)).alloc _
  have S5 : Six W0 (w.heap.size + 2) k2 b2 n2 t2 x2 p2 q2.length cap2 := by rw [hW0]; exact six_new _ (by simp)
  have b0 : Low w.heap.size w W0 := by rw [hW0]; exact low3 _ _ _ _
  have c0 : W0.cell? ⟨w.heap.size, 0, none⟩ = some (.int .i64 lang) := by
    rw [hW0]
    have e : (w.alloc (.cells #[.int .i64 lang] 3)).cell? ⟨w.heap.size, 0, none⟩ = some (.int .i64 lang) := cell_of (heap_new _ _ rfl) _ rfl
    exact ((low2 _ _ _).cell (p := ⟨w.heap.size, 0, none⟩) (by simp)).trans e
  have H0 := Lib.hid hW0
  clear hW0
  subst hk0
  go_enter Tryz.func137, Tryz.ntmps137
  go_wp2_with (first
    | (rw [← H0.out]; (with_reducible refine wpList_load6 (.tmp 4) (w.heap.size + 1) S4 ?_ ?_ ?_ ?_); rfl; rfl; rfl)
    | ((with_reducible refine wpList_load6 (.tmp 4) (w.heap.size + 1) S4 ?_ ?_ ?_ ?_); rfl; rfl; rfl)
    | ((with_reducible refine wpList_load6 (.tmp 5) (w.heap.size + 2) S5 ?_ ?_ ?_ ?_); rfl; rfl; rfl)
    | (go_at_call 107; (with_reducible refine (kindOfAt 9 b n t x _ 153 rfl _).mono ?_); rintro e w' ⟨rfl, hb⟩; replace S4 := S4.below hb.is; replace S5 := S5.below hb.is; replace c0 := (hb.cell (p := ⟨w.heap.size, 0, none⟩) (World.block_lt_of_cell? _ _ c0)).trans c0; replace b0 := low_any b0 hb b0.size; have f1 := S4.c1; have f2 := S4.c2; have f5 := S4.c5; have g1 := S5.c1; have g2 := S5.c2; have g5 := S5.c5; clear hb)
    | (simp only [ta153_155, ta153_148, ta153_149, ta153_146, ta153_147, ta153_150, Result.andThen_ok]))
  obtain ⟨N, hN⟩ : ∃ N, N = w'.heap.size := ⟨_, rfl⟩
  refine wp_region_held_drew (S := fun w' => Six w' (w.heap.size + 1) 9 b n t x p q.length cap ∧ Six w' (w.heap.size + 2) k2 b2 n2 t2 x2 p2 q2.length cap2 ∧ Low w.heap.size w w' ∧ Hid (N < w'.heap.size → w'.cell? ⟨N, 0, none⟩ = some (.int .i64 (bytesI t.toList t2.toList)) ∧ w'.cell? ⟨N, 1, none⟩ = some (.int .i64 (bytesI x.toList x2.toList)))) (by kernel_rfl) ⟨S4, S5, b0.drew, Lib.hid fun h => absurd h (by rw [hN]; exact Nat.lt_irrefl _)⟩ (fun hHeld => ?_)
  refine wpAnyH_take (i := 0) (v := .pointer (some ⟨w.heap.size + 1, 3, none⟩)) rfl (by kernel_rfl) (by kernel_rfl) (by kernel_rfl) (fun _ _ _ h => h) (Or.inl ⟨by rfl, fun W _ => by go_simp⟩) hHeld ?_
  try simp only [putS]
  refine wpAnyH_take (i := 1) (v := .string t) rfl (by kernel_rfl) (by kernel_rfl) (by kernel_rfl) (fun _ _ _ h => h) (Or.inl ⟨by rfl, fun W h => by have c0 := h.1.c3; go_simp⟩) hHeld ?_
  try simp only [putS]
  refine wpAnyH_take (i := 2) (v := .pointer (some ⟨w.heap.size + 2, 3, none⟩)) rfl (by kernel_rfl) (by kernel_rfl) (by kernel_rfl) (fun _ _ _ h => h) (Or.inl ⟨by rfl, fun W _ => by go_simp⟩) hHeld ?_
  try simp only [putS]
  refine wpAnyH_take (i := 3) (v := .string t2) rfl (by kernel_rfl) (by kernel_rfl) (by kernel_rfl) (fun _ _ _ h => h) (Or.inl ⟨by rfl, fun W h => by have c0 := h.2.1.c3; go_simp⟩) hHeld ?_
  try simp only [putS]
  refine wpAnyH_take (i := 5) (v := .pointer (some ⟨w.heap.size + 1, 4, none⟩)) rfl (by kernel_rfl) (by kernel_rfl) (by kernel_rfl) (fun _ _ _ h => h) (Or.inl ⟨by rfl, fun W _ => by go_simp⟩) hHeld ?_
  try simp only [putS]
  refine wpAnyH_take (i := 6) (v := .string x) rfl (by kernel_rfl) (by kernel_rfl) (by kernel_rfl) (fun _ _ _ h => h) (Or.inl ⟨by rfl, fun W h => by have c0 := h.1.c4; go_simp⟩) hHeld ?_
  try simp only [putS]
  refine wpAnyH_take (i := 7) (v := .pointer (some ⟨w.heap.size + 2, 4, none⟩)) rfl (by kernel_rfl) (by kernel_rfl) (by kernel_rfl) (fun _ _ _ h => h) (Or.inl ⟨by rfl, fun W _ => by go_simp⟩) hHeld ?_
  try simp only [putS]
  refine wpAnyH_take (i := 8) (v := .string x2) rfl (by kernel_rfl) (by kernel_rfl) (by kernel_rfl) (fun _ _ _ h => h) (Or.inl ⟨by rfl, fun W h => by have c0 := h.2.1.c4; go_simp⟩) hHeld ?_
  try simp only [putS]
  obtain ⟨u1, u2, u3, u4⟩ := hHeld
  refine wpAnyH_ready (rs := [4]) (by kernel_rfl) (by simp) ?_
  refine AllReadyH.cons rfl (fun K hK => ?_) AllReadyH.nil
  rw [if_pos (by rfl)]
  go_simp
  refine (strCmpAt t t2 _).mono ?_
  rintro e w3 ⟨rfl, rfl⟩
  refine hK.out _ _ ⟨u1, u2, u3, u4⟩ (fun hHeld => ?_)
  clear hK K u1 u2 u3 u4
  try simp only [putS]
  obtain ⟨u1, u2, u3, u4⟩ := hHeld
  refine wpAnyH_ready (rs := [9]) (by kernel_rfl) (by simp) ?_
  refine AllReadyH.cons rfl (fun K hK => ?_) AllReadyH.nil
  rw [if_pos (by rfl)]
  go_simp
  refine (strCmpAt x x2 _).mono ?_
  rintro e w3 ⟨rfl, rfl⟩
  refine hK.out _ _ ⟨u1, u2, u3, u4⟩ (fun hHeld => ?_)
  clear hK K u1 u2 u3 u4
  try simp only [putS]
  obtain ⟨u1, u2, u3, u4⟩ := hHeld
  refine wpAnyH_ready (rs := [10]) (by kernel_rfl) (by simp) ?_
  refine AllReadyH.cons rfl (fun K hK => ?_) AllReadyH.nil
  go_simp
  rw [← hN]
  have x4 : Six (w'.alloc (Obj.cells #[.int .i64 (bytesI t.toList t2.toList), .int .i64 (bytesI x.toList x2.toList)] 3)) (w.heap.size + 1) 9 b n t x p q.length cap := S4.alloc _
  have x5 : Six (w'.alloc (Obj.cells #[.int .i64 (bytesI t.toList t2.toList), .int .i64 (bytesI x.toList x2.toList)] 3)) (w.heap.size + 2) k2 b2 n2 t2 x2 p2 q2.length cap2 := S5.alloc _
  have xb : Low w.heap.size w (w'.alloc (Obj.cells #[.int .i64 (bytesI t.toList t2.toList), .int .i64 (bytesI x.toList x2.toList)] 3)).drew := (b0.alloc b0.size _).drew
  have y0 : (w'.alloc (Obj.cells #[.int .i64 (bytesI t.toList t2.toList), .int .i64 (bytesI x.toList x2.toList)] 3)).cell? ⟨N, 0, none⟩ = some (.int .i64 (bytesI t.toList t2.toList)) := cell_of (heap_new w' _ hN.symm) 0 rfl
  have y1 : (w'.alloc (Obj.cells #[.int .i64 (bytesI t.toList t2.toList), .int .i64 (bytesI x.toList x2.toList)] 3)).cell? ⟨N, 1, none⟩ = some (.int .i64 (bytesI x.toList x2.toList)) := cell_of (heap_new w' _ hN.symm) 1 rfl
  have ys : N < (w'.alloc (Obj.cells #[.int .i64 (bytesI t.toList t2.toList), .int .i64 (bytesI x.toList x2.toList)] 3)).drew.heap.size := by rw [hN]; show w'.heap.size < (w'.alloc _).heap.size; simp
  generalize (w'.alloc (Obj.cells #[.int .i64 (bytesI t.toList t2.toList), .int .i64 (bytesI x.toList x2.toList)] 3)) = V at x4 x5 xb y0 y1 ys ⊢
  clear u1 u2 u3 u4
  refine hK.out _ _ ⟨x4, x5, xb, Lib.hid fun _ => ⟨y0, y1⟩⟩ (fun hHeld => ?_)
  clear hK K
  try simp only [putS]
  obtain ⟨u1, u2, u3, u4⟩ := hHeld
  obtain ⟨v0, v1⟩ := u4.out ys
  refine wpAnyH_ready (rs := [11]) (by kernel_rfl) (by simp) ?_
  refine AllReadyH.cons rfl (fun K hK => ?_) AllReadyH.nil
  rw [if_pos (by rfl)]
  go_simp
  rw [hN] at v0 v1
  with_reducible refine (orAt _ _ _ _ v0 v1).mono ?_
  rintro e w3 ⟨rfl, rfl⟩
  refine hK.out _ _ ⟨u1, u2, u3, u4⟩ (fun hHeld => ?_)
  clear hK K u1 u2 u4 v0 v1
  try simp only [putS]
  refine wpAnyH_ready (rs := [12]) (by kernel_rfl) (by simp) ?_
  refine AllReadyH.cons rfl (fun K hK => ?_) AllReadyH.nil
  go_simp
  refine hK.out _ _ hHeld (fun _ => ?_)
  clear hK K hHeld
  try simp only [putS]
  refine wpAnyH_done (by kernel_rfl) ?_ _
  go_wp2_with fail
  go_ret
  exact ⟨rfl, u3⟩
end Go.Proofs.YtanbgdhmfjgihaaGreatDoor

/- How two values that go by their texts stand: kind 10. -/
namespace Go.Proofs.YtanbgdhmfjgihaaGreatDoor
open Go.RowKit

set_option maxRecDepth 20000 in
set_option maxHeartbeats 12800000 in
theorem withinText10 (lang k : Int) (b : Bool) (n : Int) (t x : ByteArray) (q : List Val) (p : Option Addr) (cap : Nat) (k2 : Int) (b2 : Bool) (n2 : Int) (t2 x2 : ByteArray) (q2 : List Val) (p2 : Option Addr) (cap2 : Nat) (w : World) (hk0 : k = 10) :
    Calls Tryz.prog 137 #[.int .i64 lang, .agg #[.int .i64 k, .bool b, .int .i64 n, .string t, .string x, .slice p q.length cap], .agg #[.int .i64 k2, .bool b2, .int .i64 n2, .string t2, .string x2, .slice p2 q2.length cap2]] w fun e w' => e = .returned (.int .i64 (lexI (bytesI t.toList t2.toList) (bytesI x.toList x2.toList))) ∧ Low w.heap.size w w' := by
  obtain ⟨W0, hW0⟩ : ∃ W0, W0 = ((w.alloc (.cells #[.int .i64 lang] 3)).alloc (.cells #[.int .i64 k, .bool b, .int .i64 n, .string t, .string x, .slice p q.length cap] 39)).alloc (.cells #[.int .i64 k2, .bool b2, .int .i64 n2, .string t2, .string x2, .slice p2 q2.length cap2] 39) := ⟨_, rfl⟩
  have S4 : Six W0 (w.heap.size + 1) k b n t x p q.length cap := by rw [hW0]; exact (six_new _ (by simp)).alloc _
  have S5 : Six W0 (w.heap.size + 2) k2 b2 n2 t2 x2 p2 q2.length cap2 := by rw [hW0]; exact six_new _ (by simp)
  have b0 : Low w.heap.size w W0 := by rw [hW0]; exact low3 _ _ _ _
  have c0 : W0.cell? ⟨w.heap.size, 0, none⟩ = some (.int .i64 lang) := by
    rw [hW0]
    have e : (w.alloc (.cells #[.int .i64 lang] 3)).cell? ⟨w.heap.size, 0, none⟩ = some (.int .i64 lang) := cell_of (heap_new _ _ rfl) _ rfl
    exact ((low2 _ _ _).cell (p := ⟨w.heap.size, 0, none⟩) (by simp)).trans e
  have H0 := Lib.hid hW0
  clear hW0
  subst hk0
  go_enter Tryz.func137, Tryz.ntmps137
  go_wp2_with (first
    | (rw [← H0.out]; (with_reducible refine wpList_load6 (.tmp 4) (w.heap.size + 1) S4 ?_ ?_ ?_ ?_); rfl; rfl; rfl)
    | ((with_reducible refine wpList_load6 (.tmp 4) (w.heap.size + 1) S4 ?_ ?_ ?_ ?_); rfl; rfl; rfl)
    | ((with_reducible refine wpList_load6 (.tmp 5) (w.heap.size + 2) S5 ?_ ?_ ?_ ?_); rfl; rfl; rfl)
    | (go_at_call 107; (with_reducible refine (kindOfAt 10 b n t x _ 154 rfl _).mono ?_); rintro e w' ⟨rfl, hb⟩; replace S4 := S4.below hb.is; replace S5 := S5.below hb.is; replace c0 := (hb.cell (p := ⟨w.heap.size, 0, none⟩) (World.block_lt_of_cell? _ _ c0)).trans c0; replace b0 := low_any b0 hb b0.size; have f1 := S4.c1; have f2 := S4.c2; have f5 := S4.c5; have g1 := S5.c1; have g2 := S5.c2; have g5 := S5.c5; clear hb)
    | (simp only [ta154_155, ta154_148, ta154_149, ta154_146, ta154_147, ta154_150, Result.andThen_ok]))
  obtain ⟨N, hN⟩ : ∃ N, N = w'.heap.size := ⟨_, rfl⟩
  refine wp_region_held_drew (S := fun w' => Six w' (w.heap.size + 1) 10 b n t x p q.length cap ∧ Six w' (w.heap.size + 2) k2 b2 n2 t2 x2 p2 q2.length cap2 ∧ Low w.heap.size w w' ∧ Hid (N < w'.heap.size → w'.cell? ⟨N, 0, none⟩ = some (.int .i64 (bytesI t.toList t2.toList)) ∧ w'.cell? ⟨N, 1, none⟩ = some (.int .i64 (bytesI x.toList x2.toList)))) (by kernel_rfl) ⟨S4, S5, b0.drew, Lib.hid fun h => absurd h (by rw [hN]; exact Nat.lt_irrefl _)⟩ (fun hHeld => ?_)
  refine wpAnyH_take (i := 0) (v := .pointer (some ⟨w.heap.size + 1, 3, none⟩)) rfl (by kernel_rfl) (by kernel_rfl) (by kernel_rfl) (fun _ _ _ h => h) (Or.inl ⟨by rfl, fun W _ => by go_simp⟩) hHeld ?_
  try simp only [putS]
  refine wpAnyH_take (i := 1) (v := .string t) rfl (by kernel_rfl) (by kernel_rfl) (by kernel_rfl) (fun _ _ _ h => h) (Or.inl ⟨by rfl, fun W h => by have c0 := h.1.c3; go_simp⟩) hHeld ?_
  try simp only [putS]
  refine wpAnyH_take (i := 2) (v := .pointer (some ⟨w.heap.size + 2, 3, none⟩)) rfl (by kernel_rfl) (by kernel_rfl) (by kernel_rfl) (fun _ _ _ h => h) (Or.inl ⟨by rfl, fun W _ => by go_simp⟩) hHeld ?_
  try simp only [putS]
  refine wpAnyH_take (i := 3) (v := .string t2) rfl (by kernel_rfl) (by kernel_rfl) (by kernel_rfl) (fun _ _ _ h => h) (Or.inl ⟨by rfl, fun W h => by have c0 := h.2.1.c3; go_simp⟩) hHeld ?_
  try simp only [putS]
  refine wpAnyH_take (i := 5) (v := .pointer (some ⟨w.heap.size + 1, 4, none⟩)) rfl (by kernel_rfl) (by kernel_rfl) (by kernel_rfl) (fun _ _ _ h => h) (Or.inl ⟨by rfl, fun W _ => by go_simp⟩) hHeld ?_
  try simp only [putS]
  refine wpAnyH_take (i := 6) (v := .string x) rfl (by kernel_rfl) (by kernel_rfl) (by kernel_rfl) (fun _ _ _ h => h) (Or.inl ⟨by rfl, fun W h => by have c0 := h.1.c4; go_simp⟩) hHeld ?_
  try simp only [putS]
  refine wpAnyH_take (i := 7) (v := .pointer (some ⟨w.heap.size + 2, 4, none⟩)) rfl (by kernel_rfl) (by kernel_rfl) (by kernel_rfl) (fun _ _ _ h => h) (Or.inl ⟨by rfl, fun W _ => by go_simp⟩) hHeld ?_
  try simp only [putS]
  refine wpAnyH_take (i := 8) (v := .string x2) rfl (by kernel_rfl) (by kernel_rfl) (by kernel_rfl) (fun _ _ _ h => h) (Or.inl ⟨by rfl, fun W h => by have c0 := h.2.1.c4; go_simp⟩) hHeld ?_
  try simp only [putS]
  obtain ⟨u1, u2, u3, u4⟩ := hHeld
  refine wpAnyH_ready (rs := [4]) (by kernel_rfl) (by simp) ?_
  refine AllReadyH.cons rfl (fun K hK => ?_) AllReadyH.nil
  rw [if_pos (by rfl)]
  go_simp
  refine (strCmpAt t t2 _).mono ?_
  rintro e w3 ⟨rfl, rfl⟩
  refine hK.out _ _ ⟨u1, u2, u3, u4⟩ (fun hHeld => ?_)
  clear hK K u1 u2 u3 u4
  try simp only [putS]
  obtain ⟨u1, u2, u3, u4⟩ := hHeld
  refine wpAnyH_ready (rs := [9]) (by kernel_rfl) (by simp) ?_
  refine AllReadyH.cons rfl (fun K hK => ?_) AllReadyH.nil
  rw [if_pos (by rfl)]
  go_simp
  refine (strCmpAt x x2 _).mono ?_
  rintro e w3 ⟨rfl, rfl⟩
  refine hK.out _ _ ⟨u1, u2, u3, u4⟩ (fun hHeld => ?_)
  clear hK K u1 u2 u3 u4
  try simp only [putS]
  obtain ⟨u1, u2, u3, u4⟩ := hHeld
  refine wpAnyH_ready (rs := [10]) (by kernel_rfl) (by simp) ?_
  refine AllReadyH.cons rfl (fun K hK => ?_) AllReadyH.nil
  go_simp
  rw [← hN]
  have x4 : Six (w'.alloc (Obj.cells #[.int .i64 (bytesI t.toList t2.toList), .int .i64 (bytesI x.toList x2.toList)] 3)) (w.heap.size + 1) 10 b n t x p q.length cap := S4.alloc _
  have x5 : Six (w'.alloc (Obj.cells #[.int .i64 (bytesI t.toList t2.toList), .int .i64 (bytesI x.toList x2.toList)] 3)) (w.heap.size + 2) k2 b2 n2 t2 x2 p2 q2.length cap2 := S5.alloc _
  have xb : Low w.heap.size w (w'.alloc (Obj.cells #[.int .i64 (bytesI t.toList t2.toList), .int .i64 (bytesI x.toList x2.toList)] 3)).drew := (b0.alloc b0.size _).drew
  have y0 : (w'.alloc (Obj.cells #[.int .i64 (bytesI t.toList t2.toList), .int .i64 (bytesI x.toList x2.toList)] 3)).cell? ⟨N, 0, none⟩ = some (.int .i64 (bytesI t.toList t2.toList)) := cell_of (heap_new w' _ hN.symm) 0 rfl
  have y1 : (w'.alloc (Obj.cells #[.int .i64 (bytesI t.toList t2.toList), .int .i64 (bytesI x.toList x2.toList)] 3)).cell? ⟨N, 1, none⟩ = some (.int .i64 (bytesI x.toList x2.toList)) := cell_of (heap_new w' _ hN.symm) 1 rfl
  have ys : N < (w'.alloc (Obj.cells #[.int .i64 (bytesI t.toList t2.toList), .int .i64 (bytesI x.toList x2.toList)] 3)).drew.heap.size := by rw [hN]; show w'.heap.size < (w'.alloc _).heap.size; simp
  generalize (w'.alloc (Obj.cells #[.int .i64 (bytesI t.toList t2.toList), .int .i64 (bytesI x.toList x2.toList)] 3)) = V at x4 x5 xb y0 y1 ys ⊢
  clear u1 u2 u3 u4
  refine hK.out _ _ ⟨x4, x5, xb, Lib.hid fun _ => ⟨y0, y1⟩⟩ (fun hHeld => ?_)
  clear hK K
  try simp only [putS]
  obtain ⟨u1, u2, u3, u4⟩ := hHeld
  obtain ⟨v0, v1⟩ := u4.out ys
  refine wpAnyH_ready (rs := [11]) (by kernel_rfl) (by simp) ?_
  refine AllReadyH.cons rfl (fun K hK => ?_) AllReadyH.nil
  rw [if_pos (by rfl)]
  go_simp
  rw [hN] at v0 v1
  with_reducible refine (orAt _ _ _ _ v0 v1).mono ?_
  rintro e w3 ⟨rfl, rfl⟩
  refine hK.out _ _ ⟨u1, u2, u3, u4⟩ (fun hHeld => ?_)
  clear hK K u1 u2 u4 v0 v1
  try simp only [putS]
  refine wpAnyH_ready (rs := [12]) (by kernel_rfl) (by simp) ?_
  refine AllReadyH.cons rfl (fun K hK => ?_) AllReadyH.nil
  go_simp
  refine hK.out _ _ hHeld (fun _ => ?_)
  clear hK K hHeld
  try simp only [putS]
  refine wpAnyH_done (by kernel_rfl) ?_ _
  go_wp2_with fail
  go_ret
  exact ⟨rfl, u3⟩
end Go.Proofs.YtanbgdhmfjgihaaGreatDoor

/- How two values that go by their texts stand: kind of a stranger. -/
namespace Go.Proofs.YtanbgdhmfjgihaaGreatDoor
open Go.RowKit

set_option maxRecDepth 20000 in
set_option maxHeartbeats 12800000 in
theorem withinText11 (lang k : Int) (b : Bool) (n : Int) (t x : ByteArray) (q : List Val) (p : Option Addr) (cap : Nat) (k2 : Int) (b2 : Bool) (n2 : Int) (t2 x2 : ByteArray) (q2 : List Val) (p2 : Option Addr) (cap2 : Nat) (w : World) (hk0 : kindT k = 188) :
    Calls Tryz.prog 137 #[.int .i64 lang, .agg #[.int .i64 k, .bool b, .int .i64 n, .string t, .string x, .slice p q.length cap], .agg #[.int .i64 k2, .bool b2, .int .i64 n2, .string t2, .string x2, .slice p2 q2.length cap2]] w fun e w' => e = .returned (.int .i64 (lexI (bytesI t.toList t2.toList) (bytesI x.toList x2.toList))) ∧ Low w.heap.size w w' := by
  obtain ⟨W0, hW0⟩ : ∃ W0, W0 = ((w.alloc (.cells #[.int .i64 lang] 3)).alloc (.cells #[.int .i64 k, .bool b, .int .i64 n, .string t, .string x, .slice p q.length cap] 39)).alloc (.cells #[.int .i64 k2, .bool b2, .int .i64 n2, .string t2, .string x2, .slice p2 q2.length cap2] 39) := ⟨_, rfl⟩
  have S4 : Six W0 (w.heap.size + 1) k b n t x p q.length cap := by rw [hW0]; exact (six_new _ (by simp)).alloc _
  have S5 : Six W0 (w.heap.size + 2) k2 b2 n2 t2 x2 p2 q2.length cap2 := by rw [hW0]; exact six_new _ (by simp)
  have b0 : Low w.heap.size w W0 := by rw [hW0]; exact low3 _ _ _ _
  have c0 : W0.cell? ⟨w.heap.size, 0, none⟩ = some (.int .i64 lang) := by
    rw [hW0]
    have e : (w.alloc (.cells #[.int .i64 lang] 3)).cell? ⟨w.heap.size, 0, none⟩ = some (.int .i64 lang) := cell_of (heap_new _ _ rfl) _ rfl
    exact ((low2 _ _ _).cell (p := ⟨w.heap.size, 0, none⟩) (by simp)).trans e
  have H0 := Lib.hid hW0
  clear hW0
  have hk := hk0
  go_enter Tryz.func137, Tryz.ntmps137
  go_wp2_with (first
    | (rw [← H0.out]; (with_reducible refine wpList_load6 (.tmp 4) (w.heap.size + 1) S4 ?_ ?_ ?_ ?_); rfl; rfl; rfl)
    | ((with_reducible refine wpList_load6 (.tmp 4) (w.heap.size + 1) S4 ?_ ?_ ?_ ?_); rfl; rfl; rfl)
    | ((with_reducible refine wpList_load6 (.tmp 5) (w.heap.size + 2) S5 ?_ ?_ ?_ ?_); rfl; rfl; rfl)
    | (go_at_call 107; (with_reducible refine (kindOfAt k b n t x _ 188 hk.symm _).mono ?_); rintro e w' ⟨rfl, hb⟩; replace S4 := S4.below hb.is; replace S5 := S5.below hb.is; replace c0 := (hb.cell (p := ⟨w.heap.size, 0, none⟩) (World.block_lt_of_cell? _ _ c0)).trans c0; replace b0 := low_any b0 hb b0.size; have f1 := S4.c1; have f2 := S4.c2; have f5 := S4.c5; have g1 := S5.c1; have g2 := S5.c2; have g5 := S5.c5; clear hb)
    | (simp only [ta188_155, ta188_148, ta188_149, ta188_146, ta188_147, ta188_150, Result.andThen_ok]))
  obtain ⟨N, hN⟩ : ∃ N, N = w'.heap.size := ⟨_, rfl⟩
  refine wp_region_held_drew (S := fun w' => Six w' (w.heap.size + 1) k b n t x p q.length cap ∧ Six w' (w.heap.size + 2) k2 b2 n2 t2 x2 p2 q2.length cap2 ∧ Low w.heap.size w w' ∧ Hid (N < w'.heap.size → w'.cell? ⟨N, 0, none⟩ = some (.int .i64 (bytesI t.toList t2.toList)) ∧ w'.cell? ⟨N, 1, none⟩ = some (.int .i64 (bytesI x.toList x2.toList)))) (by kernel_rfl) ⟨S4, S5, b0.drew, Lib.hid fun h => absurd h (by rw [hN]; exact Nat.lt_irrefl _)⟩ (fun hHeld => ?_)
  refine wpAnyH_take (i := 0) (v := .pointer (some ⟨w.heap.size + 1, 3, none⟩)) rfl (by kernel_rfl) (by kernel_rfl) (by kernel_rfl) (fun _ _ _ h => h) (Or.inl ⟨by rfl, fun W _ => by go_simp⟩) hHeld ?_
  try simp only [putS]
  refine wpAnyH_take (i := 1) (v := .string t) rfl (by kernel_rfl) (by kernel_rfl) (by kernel_rfl) (fun _ _ _ h => h) (Or.inl ⟨by rfl, fun W h => by have c0 := h.1.c3; go_simp⟩) hHeld ?_
  try simp only [putS]
  refine wpAnyH_take (i := 2) (v := .pointer (some ⟨w.heap.size + 2, 3, none⟩)) rfl (by kernel_rfl) (by kernel_rfl) (by kernel_rfl) (fun _ _ _ h => h) (Or.inl ⟨by rfl, fun W _ => by go_simp⟩) hHeld ?_
  try simp only [putS]
  refine wpAnyH_take (i := 3) (v := .string t2) rfl (by kernel_rfl) (by kernel_rfl) (by kernel_rfl) (fun _ _ _ h => h) (Or.inl ⟨by rfl, fun W h => by have c0 := h.2.1.c3; go_simp⟩) hHeld ?_
  try simp only [putS]
  refine wpAnyH_take (i := 5) (v := .pointer (some ⟨w.heap.size + 1, 4, none⟩)) rfl (by kernel_rfl) (by kernel_rfl) (by kernel_rfl) (fun _ _ _ h => h) (Or.inl ⟨by rfl, fun W _ => by go_simp⟩) hHeld ?_
  try simp only [putS]
  refine wpAnyH_take (i := 6) (v := .string x) rfl (by kernel_rfl) (by kernel_rfl) (by kernel_rfl) (fun _ _ _ h => h) (Or.inl ⟨by rfl, fun W h => by have c0 := h.1.c4; go_simp⟩) hHeld ?_
  try simp only [putS]
  refine wpAnyH_take (i := 7) (v := .pointer (some ⟨w.heap.size + 2, 4, none⟩)) rfl (by kernel_rfl) (by kernel_rfl) (by kernel_rfl) (fun _ _ _ h => h) (Or.inl ⟨by rfl, fun W _ => by go_simp⟩) hHeld ?_
  try simp only [putS]
  refine wpAnyH_take (i := 8) (v := .string x2) rfl (by kernel_rfl) (by kernel_rfl) (by kernel_rfl) (fun _ _ _ h => h) (Or.inl ⟨by rfl, fun W h => by have c0 := h.2.1.c4; go_simp⟩) hHeld ?_
  try simp only [putS]
  obtain ⟨u1, u2, u3, u4⟩ := hHeld
  refine wpAnyH_ready (rs := [4]) (by kernel_rfl) (by simp) ?_
  refine AllReadyH.cons rfl (fun K hK => ?_) AllReadyH.nil
  rw [if_pos (by rfl)]
  go_simp
  refine (strCmpAt t t2 _).mono ?_
  rintro e w3 ⟨rfl, rfl⟩
  refine hK.out _ _ ⟨u1, u2, u3, u4⟩ (fun hHeld => ?_)
  clear hK K u1 u2 u3 u4
  try simp only [putS]
  obtain ⟨u1, u2, u3, u4⟩ := hHeld
  refine wpAnyH_ready (rs := [9]) (by kernel_rfl) (by simp) ?_
  refine AllReadyH.cons rfl (fun K hK => ?_) AllReadyH.nil
  rw [if_pos (by rfl)]
  go_simp
  refine (strCmpAt x x2 _).mono ?_
  rintro e w3 ⟨rfl, rfl⟩
  refine hK.out _ _ ⟨u1, u2, u3, u4⟩ (fun hHeld => ?_)
  clear hK K u1 u2 u3 u4
  try simp only [putS]
  obtain ⟨u1, u2, u3, u4⟩ := hHeld
  refine wpAnyH_ready (rs := [10]) (by kernel_rfl) (by simp) ?_
  refine AllReadyH.cons rfl (fun K hK => ?_) AllReadyH.nil
  go_simp
  rw [← hN]
  have x4 : Six (w'.alloc (Obj.cells #[.int .i64 (bytesI t.toList t2.toList), .int .i64 (bytesI x.toList x2.toList)] 3)) (w.heap.size + 1) k b n t x p q.length cap := S4.alloc _
  have x5 : Six (w'.alloc (Obj.cells #[.int .i64 (bytesI t.toList t2.toList), .int .i64 (bytesI x.toList x2.toList)] 3)) (w.heap.size + 2) k2 b2 n2 t2 x2 p2 q2.length cap2 := S5.alloc _
  have xb : Low w.heap.size w (w'.alloc (Obj.cells #[.int .i64 (bytesI t.toList t2.toList), .int .i64 (bytesI x.toList x2.toList)] 3)).drew := (b0.alloc b0.size _).drew
  have y0 : (w'.alloc (Obj.cells #[.int .i64 (bytesI t.toList t2.toList), .int .i64 (bytesI x.toList x2.toList)] 3)).cell? ⟨N, 0, none⟩ = some (.int .i64 (bytesI t.toList t2.toList)) := cell_of (heap_new w' _ hN.symm) 0 rfl
  have y1 : (w'.alloc (Obj.cells #[.int .i64 (bytesI t.toList t2.toList), .int .i64 (bytesI x.toList x2.toList)] 3)).cell? ⟨N, 1, none⟩ = some (.int .i64 (bytesI x.toList x2.toList)) := cell_of (heap_new w' _ hN.symm) 1 rfl
  have ys : N < (w'.alloc (Obj.cells #[.int .i64 (bytesI t.toList t2.toList), .int .i64 (bytesI x.toList x2.toList)] 3)).drew.heap.size := by rw [hN]; show w'.heap.size < (w'.alloc _).heap.size; simp
  generalize (w'.alloc (Obj.cells #[.int .i64 (bytesI t.toList t2.toList), .int .i64 (bytesI x.toList x2.toList)] 3)) = V at x4 x5 xb y0 y1 ys ⊢
  clear u1 u2 u3 u4
  refine hK.out _ _ ⟨x4, x5, xb, Lib.hid fun _ => ⟨y0, y1⟩⟩ (fun hHeld => ?_)
  clear hK K
  try simp only [putS]
  obtain ⟨u1, u2, u3, u4⟩ := hHeld
  obtain ⟨v0, v1⟩ := u4.out ys
  refine wpAnyH_ready (rs := [11]) (by kernel_rfl) (by simp) ?_
  refine AllReadyH.cons rfl (fun K hK => ?_) AllReadyH.nil
  rw [if_pos (by rfl)]
  go_simp
  rw [hN] at v0 v1
  with_reducible refine (orAt _ _ _ _ v0 v1).mono ?_
  rintro e w3 ⟨rfl, rfl⟩
  refine hK.out _ _ ⟨u1, u2, u3, u4⟩ (fun hHeld => ?_)
  clear hK K u1 u2 u4 v0 v1
  try simp only [putS]
  refine wpAnyH_ready (rs := [12]) (by kernel_rfl) (by simp) ?_
  refine AllReadyH.cons rfl (fun K hK => ?_) AllReadyH.nil
  go_simp
  refine hK.out _ _ hHeld (fun _ => ?_)
  clear hK K hHeld
  try simp only [putS]
  refine wpAnyH_done (by kernel_rfl) ?_ _
  go_wp2_with fail
  go_ret
  exact ⟨rfl, u3⟩
end Go.Proofs.YtanbgdhmfjgihaaGreatDoor

/- How two values of one rank stand; how any two values stand: Order. -/
namespace Go.Proofs.YtanbgdhmfjgihaaGreatDoor
open Go.RowKit

/-- How two of one rank stand. -/
def withinI (lang : Int) : Val → Val → Int
  | .mk k b n t x l, .mk k2 b2 n2 t2 x2 l2 => if k = 5 then listI lang l l2 else innerI k n b t x k2 n2 b2 t2 x2
theorem withinI_mk (lang : Int) (k : Int) (b : Bool) (n : Int) (t x : ByteArray) (l : List Val) (k2 : Int) (b2 : Bool) (n2 : Int) (t2 x2 : ByteArray) (l2 : List Val) : withinI lang (.mk k b n t x l) (.mk k2 b2 n2 t2 x2 l2) = if k = 5 then listI lang l l2 else innerI k n b t x k2 n2 b2 t2 x2 := rfl
theorem innerT (k n : Int) (b : Bool) (t x : ByteArray) (k2 n2 : Int) (b2 : Bool) (t2 x2 : ByteArray) (h6 : ¬ k = 6) (h7 : ¬ k = 7) (h1 : ¬ k = 1) (h2 : ¬ k = 2) (h3 : ¬ k = 3) : innerI k n b t x k2 n2 b2 t2 x2 = lexI (bytesI t.toList t2.toList) (bytesI x.toList x2.toList) := by
  unfold innerI
  rw [if_neg (by omega), if_neg h1, if_neg (by omega)]

set_option maxRecDepth 20000 in
set_option maxHeartbeats 12800000 in
theorem withinAt (lang k : Int) (b : Bool) (n : Int) (t x : ByteArray) (q : List Val) (p : Option Addr) (cap : Nat) (k2 : Int) (b2 : Bool) (n2 : Int) (t2 x2 : ByteArray) (q2 : List Val) (p2 : Option Addr) (cap2 : Nat) (w : World) (hr : rankI lang k = rankI lang k2)
    (hG : Gd w) (hT : Tab w) (hf : Fine n t x q.length) (hf2 : Fine n2 t2 x2 q2.length) (hl : Held w (.slice p q.length cap) q) (hl2 : Held w (.slice p2 q2.length cap2) q2) (each : ∀ u ∈ q, OrdAt u) :
    Calls Tryz.prog 137 #[.int .i64 lang, .agg #[.int .i64 k, .bool b, .int .i64 n, .string t, .string x, .slice p q.length cap], .agg #[.int .i64 k2, .bool b2, .int .i64 n2, .string t2, .string x2, .slice p2 q2.length cap2]] w fun e w' => e = .returned (.int .i64 (withinI lang (.mk k b n t x q) (.mk k2 b2 n2 t2 x2 q2))) ∧ Low w.heap.size w w' := by
  obtain ⟨W0, hW0⟩ : ∃ W0, W0 = ((w.alloc (.cells #[.int .i64 lang] 3)).alloc (.cells #[.int .i64 k, .bool b, .int .i64 n, .string t, .string x, .slice p q.length cap] 39)).alloc (.cells #[.int .i64 k2, .bool b2, .int .i64 n2, .string t2, .string x2, .slice p2 q2.length cap2] 39) := ⟨_, rfl⟩
  have S4 : Six W0 (w.heap.size + 1) k b n t x p q.length cap := by rw [hW0]; exact (six_new _ (by simp)).alloc _
  have S5 : Six W0 (w.heap.size + 2) k2 b2 n2 t2 x2 p2 q2.length cap2 := by rw [hW0]; exact six_new _ (by simp)
  have b0 : Low w.heap.size w W0 := by rw [hW0]; exact low3 _ _ _ _
  have c0 : W0.cell? ⟨w.heap.size, 0, none⟩ = some (.int .i64 lang) := by
    rw [hW0]
    have e : (w.alloc (.cells #[.int .i64 lang] 3)).cell? ⟨w.heap.size, 0, none⟩ = some (.int .i64 lang) := cell_of (heap_new _ _ rfl) _ rfl
    exact ((low2 _ _ _).cell (p := ⟨w.heap.size, 0, none⟩) (by simp)).trans e
  have hcf := fun W (h : Low w.heap.size w W) (hc : W.cell? ⟨w.heap.size, 0, none⟩ = some (.int .i64 lang)) => cmpFuncAt lang w.heap.size q q2 p p2 cap cap2 W (hG.below h.is) (hT.below h.is) hc (Held.below q hl h.is) (Held.below q2 hl2 h.is) hf.hn hf2.hn each
  have hnum := fun (hk : k = 2 ∨ k = 3) (hk2 : k2 = 2 ∨ k2 = 3) W (h : Low w.heap.size w W) => ordNumsAt k b n t x p q.length cap k2 b2 n2 t2 x2 p2 q2.length cap2 W (hG.below h.is) (hT.below h.is) hf hf2 hk hk2
  have H0 := Lib.hid hW0
  clear hf hf2 hG hT hl hl2 each hW0
  rw [withinI_mk]
  have hcat := (rank_cat hr).2.2.2
  clear hr
  by_cases h5 : k = 5
  · subst h5
    rw [if_pos rfl]
    clear hnum hcat
    generalize listI lang q q2 = r at hcf ⊢
    go_enter Tryz.func137, Tryz.ntmps137
    go_wp2_with (first
      | (rw [← H0.out]; (with_reducible refine wpList_load6 (.tmp 4) (w.heap.size + 1) S4 ?_ ?_ ?_ ?_); rfl; rfl; rfl)
      | ((with_reducible refine wpList_load6 (.tmp 4) (w.heap.size + 1) S4 ?_ ?_ ?_ ?_); rfl; rfl; rfl)
      | ((with_reducible refine wpList_load6 (.tmp 5) (w.heap.size + 2) S5 ?_ ?_ ?_ ?_); rfl; rfl; rfl)
      | (go_at_call 107; (with_reducible refine (kindOfAt 5 b n t x _ 155 rfl _).mono ?_); rintro e w' ⟨rfl, hb⟩; replace S4 := S4.below hb.is; replace S5 := S5.below hb.is; replace c0 := (hb.cell (p := ⟨w.heap.size, 0, none⟩) (World.block_lt_of_cell? _ _ c0)).trans c0; replace b0 := low_any b0 hb b0.size; have f1 := S4.c1; have f2 := S4.c2; have f5 := S4.c5; have g1 := S5.c1; have g2 := S5.c2; have g5 := S5.c5; clear hb)
      | (simp only [ta155_155, Result.andThen_ok])
      | (go_at_call 165; (with_reducible refine (hcf _ b0 c0).mono ?_); rintro e w' ⟨rfl, hb⟩; replace b0 := low_any b0 hb b0.size; clear hb))
    go_ret
    exact ⟨rfl, b0⟩
  rw [if_neg h5]
  clear hcf
  by_cases h6 : k = 6
  · subst h6
    clear hnum hcat
    rw [show innerI 6 n b t x k2 n2 b2 t2 x2 = cmpZ n n2 from rfl]
    go_enter Tryz.func137, Tryz.ntmps137
    go_wp2_with (first
      | (rw [← H0.out]; (with_reducible refine wpList_load6 (.tmp 4) (w.heap.size + 1) S4 ?_ ?_ ?_ ?_); rfl; rfl; rfl)
      | ((with_reducible refine wpList_load6 (.tmp 4) (w.heap.size + 1) S4 ?_ ?_ ?_ ?_); rfl; rfl; rfl)
      | ((with_reducible refine wpList_load6 (.tmp 5) (w.heap.size + 2) S5 ?_ ?_ ?_ ?_); rfl; rfl; rfl)
      | (go_at_call 107; (with_reducible refine (kindOfAt 6 b n t x _ 148 rfl _).mono ?_); rintro e w' ⟨rfl, hb⟩; replace S4 := S4.below hb.is; replace S5 := S5.below hb.is; replace c0 := (hb.cell (p := ⟨w.heap.size, 0, none⟩) (World.block_lt_of_cell? _ _ c0)).trans c0; replace b0 := low_any b0 hb b0.size; have f1 := S4.c1; have f2 := S4.c2; have f5 := S4.c5; have g1 := S5.c1; have g2 := S5.c2; have g5 := S5.c5; clear hb)
      | (simp only [ta148_155, ta148_148, ta148_149, Result.andThen_ok])
      | (go_at_call 167; (with_reducible refine (cmpIntAt n n2 _).mono ?_); rintro e w' ⟨rfl, hb⟩; replace b0 := low_any b0 hb b0.size; clear hb))
    go_ret
    exact ⟨rfl, b0⟩
  by_cases h7 : k = 7
  · subst h7
    clear hnum hcat
    rw [show innerI 7 n b t x k2 n2 b2 t2 x2 = cmpZ n n2 from rfl]
    go_enter Tryz.func137, Tryz.ntmps137
    go_wp2_with (first
      | (rw [← H0.out]; (with_reducible refine wpList_load6 (.tmp 4) (w.heap.size + 1) S4 ?_ ?_ ?_ ?_); rfl; rfl; rfl)
      | ((with_reducible refine wpList_load6 (.tmp 4) (w.heap.size + 1) S4 ?_ ?_ ?_ ?_); rfl; rfl; rfl)
      | ((with_reducible refine wpList_load6 (.tmp 5) (w.heap.size + 2) S5 ?_ ?_ ?_ ?_); rfl; rfl; rfl)
      | (go_at_call 107; (with_reducible refine (kindOfAt 7 b n t x _ 149 rfl _).mono ?_); rintro e w' ⟨rfl, hb⟩; replace S4 := S4.below hb.is; replace S5 := S5.below hb.is; replace c0 := (hb.cell (p := ⟨w.heap.size, 0, none⟩) (World.block_lt_of_cell? _ _ c0)).trans c0; replace b0 := low_any b0 hb b0.size; have f1 := S4.c1; have f2 := S4.c2; have f5 := S4.c5; have g1 := S5.c1; have g2 := S5.c2; have g5 := S5.c5; clear hb)
      | (simp only [ta149_155, ta149_148, ta149_149, Result.andThen_ok])
      | (go_at_call 167; (with_reducible refine (cmpIntAt n n2 _).mono ?_); rintro e w' ⟨rfl, hb⟩; replace b0 := low_any b0 hb b0.size; clear hb))
    go_ret
    exact ⟨rfl, b0⟩
  by_cases h1 : k = 1
  · subst h1
    clear hnum hcat
    rw [show innerI 1 n b t x k2 n2 b2 t2 x2 = boolI b b2 from rfl]
    go_enter Tryz.func137, Tryz.ntmps137
    go_wp2_with (first
      | (rw [← H0.out]; (with_reducible refine wpList_load6 (.tmp 4) (w.heap.size + 1) S4 ?_ ?_ ?_ ?_); rfl; rfl; rfl)
      | ((with_reducible refine wpList_load6 (.tmp 4) (w.heap.size + 1) S4 ?_ ?_ ?_ ?_); rfl; rfl; rfl)
      | ((with_reducible refine wpList_load6 (.tmp 5) (w.heap.size + 2) S5 ?_ ?_ ?_ ?_); rfl; rfl; rfl)
      | (go_at_call 107; (with_reducible refine (kindOfAt 1 b n t x _ 146 rfl _).mono ?_); rintro e w' ⟨rfl, hb⟩; replace S4 := S4.below hb.is; replace S5 := S5.below hb.is; replace c0 := (hb.cell (p := ⟨w.heap.size, 0, none⟩) (World.block_lt_of_cell? _ _ c0)).trans c0; replace b0 := low_any b0 hb b0.size; have f1 := S4.c1; have f2 := S4.c2; have f5 := S4.c5; have g1 := S5.c1; have g2 := S5.c2; have g5 := S5.c5; clear hb)
      | (simp only [ta146_155, ta146_148, ta146_149, ta146_146, Result.andThen_ok])
      | (go_at_call 168; (with_reducible refine (orderBoolsAt b b2 _).mono ?_); rintro e w' ⟨rfl, rfl⟩))
    go_ret
    exact ⟨rfl, b0⟩
  by_cases h2 : k = 2
  · subst h2
    replace hnum := hnum (.inl rfl) (hcat.1 (.inl rfl))
    clear hcat
    rw [show innerI 2 n b t x k2 n2 b2 t2 x2 = lexI (cmpZ (numV 2 n t) (numV k2 n2 t2)) (lexI (cmpZ 2 k2) (if (2 : Int) = 3 then bytesI t.toList t2.toList else 0)) from rfl]
    generalize lexI (cmpZ (numV 2 n t) (numV k2 n2 t2)) (lexI (cmpZ 2 k2) (if (2 : Int) = 3 then bytesI t.toList t2.toList else 0)) = r at hnum ⊢
    go_enter Tryz.func137, Tryz.ntmps137
    go_wp2_with (first
      | (rw [← H0.out]; (with_reducible refine wpList_load6 (.tmp 4) (w.heap.size + 1) S4 ?_ ?_ ?_ ?_); rfl; rfl; rfl)
      | ((with_reducible refine wpList_load6 (.tmp 4) (w.heap.size + 1) S4 ?_ ?_ ?_ ?_); rfl; rfl; rfl)
      | ((with_reducible refine wpList_load6 (.tmp 5) (w.heap.size + 2) S5 ?_ ?_ ?_ ?_); rfl; rfl; rfl)
      | (go_at_call 107; (with_reducible refine (kindOfAt 2 b n t x _ 147 rfl _).mono ?_); rintro e w' ⟨rfl, hb⟩; replace S4 := S4.below hb.is; replace S5 := S5.below hb.is; replace c0 := (hb.cell (p := ⟨w.heap.size, 0, none⟩) (World.block_lt_of_cell? _ _ c0)).trans c0; replace b0 := low_any b0 hb b0.size; have f1 := S4.c1; have f2 := S4.c2; have f5 := S4.c5; have g1 := S5.c1; have g2 := S5.c2; have g5 := S5.c5; clear hb)
      | (simp only [ta147_155, ta147_148, ta147_149, ta147_146, ta147_147, ta147_150, Result.andThen_ok])
      | (go_at_call 169; (with_reducible refine (hnum _ b0).mono ?_); rintro e w' ⟨rfl, hb⟩; replace b0 := low_any b0 hb b0.size; clear hb))
    go_ret
    exact ⟨rfl, b0⟩
  by_cases h3 : k = 3
  · subst h3
    replace hnum := hnum (.inr rfl) (hcat.1 (.inr rfl))
    clear hcat
    rw [show innerI 3 n b t x k2 n2 b2 t2 x2 = lexI (cmpZ (numV 3 n t) (numV k2 n2 t2)) (lexI (cmpZ 3 k2) (if (3 : Int) = 3 then bytesI t.toList t2.toList else 0)) from rfl]
    generalize lexI (cmpZ (numV 3 n t) (numV k2 n2 t2)) (lexI (cmpZ 3 k2) (if (3 : Int) = 3 then bytesI t.toList t2.toList else 0)) = r at hnum ⊢
    go_enter Tryz.func137, Tryz.ntmps137
    go_wp2_with (first
      | (rw [← H0.out]; (with_reducible refine wpList_load6 (.tmp 4) (w.heap.size + 1) S4 ?_ ?_ ?_ ?_); rfl; rfl; rfl)
      | ((with_reducible refine wpList_load6 (.tmp 4) (w.heap.size + 1) S4 ?_ ?_ ?_ ?_); rfl; rfl; rfl)
      | ((with_reducible refine wpList_load6 (.tmp 5) (w.heap.size + 2) S5 ?_ ?_ ?_ ?_); rfl; rfl; rfl)
      | (go_at_call 107; (with_reducible refine (kindOfAt 3 b n t x _ 150 rfl _).mono ?_); rintro e w' ⟨rfl, hb⟩; replace S4 := S4.below hb.is; replace S5 := S5.below hb.is; replace c0 := (hb.cell (p := ⟨w.heap.size, 0, none⟩) (World.block_lt_of_cell? _ _ c0)).trans c0; replace b0 := low_any b0 hb b0.size; have f1 := S4.c1; have f2 := S4.c2; have f5 := S4.c5; have g1 := S5.c1; have g2 := S5.c2; have g5 := S5.c5; clear hb)
      | (simp only [ta150_155, ta150_148, ta150_149, ta150_146, ta150_147, ta150_150, Result.andThen_ok])
      | (go_at_call 169; (with_reducible refine (hnum _ b0).mono ?_); rintro e w' ⟨rfl, hb⟩; replace b0 := low_any b0 hb b0.size; clear hb))
    go_ret
    exact ⟨rfl, b0⟩
  rw [innerT k n b t x k2 n2 b2 t2 x2 h6 h7 h1 h2 h3]
  clear hnum hcat
  by_cases h0 : k = 0
  · exact withinText0 lang k b n t x q p cap k2 b2 n2 t2 x2 q2 p2 cap2 w h0
  by_cases h4 : k = 4
  · exact withinText4 lang k b n t x q p cap k2 b2 n2 t2 x2 q2 p2 cap2 w h4
  by_cases h8 : k = 8
  · exact withinText8 lang k b n t x q p cap k2 b2 n2 t2 x2 q2 p2 cap2 w h8
  by_cases h9 : k = 9
  · exact withinText9 lang k b n t x q p cap k2 b2 n2 t2 x2 q2 p2 cap2 w h9
  by_cases h10 : k = 10
  · exact withinText10 lang k b n t x q p cap k2 b2 n2 t2 x2 q2 p2 cap2 w h10
  exact withinText11 lang k b n t x q p cap k2 b2 n2 t2 x2 q2 p2 cap2 w (by unfold kindT; simp [h0, h1, h2, h3, h4, h5, h6, h7, h8, h9, h10])
end Go.Proofs.YtanbgdhmfjgihaaGreatDoor

/- How any two values stand: Order. -/
namespace Go.Proofs.YtanbgdhmfjgihaaGreatDoor
open Go.RowKit

set_option maxRecDepth 20000 in
set_option maxHeartbeats 6400000 in
theorem ord_step (v : Val) (k : Int) (b : Bool) (n : Int) (t x : ByteArray) (q : List Val) (ev : v = .mk k b n t x q) (each : ∀ u ∈ q, OrdAt u) : OrdAt v := by
  subst ev
  intro lang w k1 b1 n1 t1 x1 q1 p cap v2 k2 b2 n2 t2 x2 q2 p2 cap2 e1 e2 hG hT hf hf2 hl hl2
  cases e1
  subst e2
  obtain ⟨W0, hW0⟩ : ∃ W0, W0 = (w.alloc (.cells #[.int .i64 k, .bool b, .int .i64 n, .string t, .string x, .slice p q.length cap] 39)).alloc (.cells #[.int .i64 k2, .bool b2, .int .i64 n2, .string t2, .string x2, .slice p2 q2.length cap2] 39) := ⟨_, rfl⟩
  have S4 : Six W0 w.heap.size k b n t x p q.length cap := by rw [hW0]; exact (six_new _ rfl).alloc _
  have S5 : Six W0 (w.heap.size + 1) k2 b2 n2 t2 x2 p2 q2.length cap2 := by rw [hW0]; exact six_new _ (by simp)
  have b0 : Low w.heap.size w W0 := by rw [hW0]; exact low2 _ _ _
  have hwi := fun (hr : rankI lang k = rankI lang k2) W (h : Low w.heap.size w W) => withinAt lang k b n t x q p cap k2 b2 n2 t2 x2 q2 p2 cap2 W hr (hG.below h.is) (hT.below h.is) hf hf2 (Held.below q hl h.is) (Held.below q2 hl2 h.is) each
  have hr1 := fun W => rankAt lang k b n t x p q.length cap W
  have hr2 := fun W => rankAt lang k2 b2 n2 t2 x2 p2 q2.length cap2 W
  rw [orderI_mk, ← withinI_mk]
  generalize withinI lang (.mk k b n t x q) (.mk k2 b2 n2 t2 x2 q2) = r at hwi ⊢
  generalize rankI lang k = ra at hwi hr1 ⊢
  generalize rankI lang k2 = rb at hwi hr2 ⊢
  have H0 := Lib.hid hW0
  clear hW0 hl hl2 hf hf2 hG hT each
  obtain ⟨z, hz⟩ : ∃ z, z = lexI (cmpZ ra rb) r := ⟨_, rfl⟩
  rw [← hz]
  go_enter Tryz.func102, Tryz.ntmps102
  go_upto_region 2 with fail
  rw [← H0.out]
  refine wp_region_held_drew (S := fun w' => Six w' w.heap.size k b n t x p q.length cap ∧ Six w' (w.heap.size + 1) k2 b2 n2 t2 x2 p2 q2.length cap2 ∧ Low w.heap.size w w') (by kernel_rfl) ⟨S4, S5, b0.drew⟩ (fun hHeld => ?_)
  refine wpAnyH_take (i := 0) (v := .int .i64 lang) rfl (by kernel_rfl) (by kernel_rfl) (by kernel_rfl) (fun _ _ _ h => h) (Or.inl ⟨by rfl, fun W _ => by go_simp⟩) hHeld ?_
  try simp only [putS]
  refine wpAnyH_take (i := 1) rfl (by kernel_rfl) (by kernel_rfl) (by kernel_rfl) (fun _ _ _ h => h) (yields6 (by rfl) (.tmp 4) rfl w.heap.size rfl (fun _ h => h.1)) hHeld ?_
  try simp only [putS]
  refine wpAnyH_take (i := 3) (v := .int .i64 lang) rfl (by kernel_rfl) (by kernel_rfl) (by kernel_rfl) (fun _ _ _ h => h) (Or.inl ⟨by rfl, fun W _ => by go_simp⟩) hHeld ?_
  try simp only [putS]
  refine wpAnyH_take (i := 4) rfl (by kernel_rfl) (by kernel_rfl) (by kernel_rfl) (fun _ _ _ h => h) (yields6 (by rfl) (.tmp 5) rfl (w.heap.size + 1) rfl (fun _ h => h.2.1)) hHeld ?_
  try simp only [putS]
  obtain ⟨u1, u2, u3⟩ := hHeld
  refine wpAnyH_ready (rs := [2]) (by kernel_rfl) (by simp) ?_
  refine AllReadyH.cons rfl (fun K hK => ?_) AllReadyH.nil
  rw [if_pos (by rfl)]
  go_simp
  refine (hr1 _).mono ?_
  rintro e w3 ⟨rfl, hb⟩
  refine hK.out _ _ ⟨u1.below hb.is, u2.below hb.is, low_any u3 hb u3.size⟩ (fun hHeld => ?_)
  clear hK K u1 u2 u3 hb
  try simp only [putS]
  obtain ⟨u1, u2, u3⟩ := hHeld
  refine wpAnyH_ready (rs := [5]) (by kernel_rfl) (by simp) ?_
  refine AllReadyH.cons rfl (fun K hK => ?_) AllReadyH.nil
  rw [if_pos (by rfl)]
  go_simp
  refine (hr2 _).mono ?_
  rintro e w3 ⟨rfl, hb⟩
  refine hK.out _ _ ⟨u1.below hb.is, u2.below hb.is, low_any u3 hb u3.size⟩ (fun hHeld => ?_)
  clear hK K u1 u2 u3 hb
  try simp only [putS]
  refine wpAnyH_take (i := 6) (v := .int .i64 ra) rfl (by kernel_rfl) (by kernel_rfl) (by kernel_rfl) (fun _ _ _ h => h) (Or.inl ⟨by rfl, fun W _ => by go_simp⟩) hHeld ?_
  try simp only [putS]
  refine wpAnyH_take (i := 7) (v := .int .i64 rb) rfl (by kernel_rfl) (by kernel_rfl) (by kernel_rfl) (fun _ _ _ h => h) (Or.inl ⟨by rfl, fun W _ => by go_simp⟩) hHeld ?_
  try simp only [putS]
  refine wpAnyH_done (by kernel_rfl) ?_ _
  obtain ⟨u1, u2, u3⟩ := hHeld
  have H1 := Lib.hid hz
  clear hz
  by_cases h1 : ra < rb
  · obtain rfl : z = -1 := by rw [H1.out]; unfold cmpZ; rw [if_pos h1]; rfl
    clear H1 hwi
    go_wp2_with fail
    go_ret
    exact ⟨rfl, u3⟩
  · by_cases h2 : rb < ra
    · obtain rfl : z = 1 := by rw [H1.out]; unfold cmpZ; rw [if_neg h1, if_pos h2]; rfl
      clear H1 hwi
      go_wp2_with fail
      go_ret
      exact ⟨rfl, u3⟩
    · obtain rfl : ra = rb := by omega
      obtain rfl : z = r := by rw [H1.out, cmpZ_same, lexI_zero]
      replace hwi := hwi rfl
      clear H1
      go_wp2_with (first
        | ((with_reducible refine wpList_load6 (.tmp 4) w.heap.size u1 ?_ ?_ ?_ ?_); rfl; rfl; rfl)
        | ((with_reducible refine wpList_load6 (.tmp 5) (w.heap.size + 1) u2 ?_ ?_ ?_ ?_); rfl; rfl; rfl)
        | (go_at_call 137; (with_reducible refine (hwi _ u3).mono ?_); rintro e w3 ⟨rfl, hb⟩; replace u3 := low_any u3 hb u3.size; clear hb))
      go_ret
      exact ⟨rfl, u3⟩

mutual
theorem ordAll : (v : Val) → OrdAt v
  | .mk k b n t x q => ord_step _ k b n t x q rfl (ordEach q)
theorem ordEach : (q : List Val) → ∀ u ∈ q, OrdAt u
  | [], _, h => absurd h (by simp)
  | v :: r, u, h => by
    rcases List.mem_cons.1 h with h | h
    · rw [h]; exact ordAll v
    · exact ordEach r u h
end

end Go.Proofs.YtanbgdhmfjgihaaGreatDoor
