/- compare. -/
import Derived.Test.YtoifjjgakblhhaaDoorA6m
namespace Go.Proofs.YtoifjjgakblhhaaDoor
open Go.RowKit

theorem cmpFT (c d : Array Value) (f g : Nat → Nat) (w : World) (hc : IsNum c false f) (hd : IsNum d true g) :
    Calls Tryd.prog 42 #[.agg c, .agg d] w fun e w' => e = .returned (.int .i64 1) ∧ Below w.heap.size w w' := by
  have h0 : ((w.alloc (.cells c 73)).alloc (.cells d 73)).cell? ⟨w.heap.size, 0, none⟩ = some (.bool false) := cell_of (heap_old _ (heap_new _ _ rfl)) _ hc.neg
  have h1 : ((w.alloc (.cells c 73)).alloc (.cells d 73)).cell? ⟨w.heap.size + 1, 0, none⟩ = some (.bool true) := cell_of (heap_new _ _ (by simp)) _ hd.neg
  go_enter Tryd.func42, Tryd.ntmps42
  go_wp2_with fail
  go_ret
  exact ⟨rfl, ((Below.refl _ _).alloc (Nat.le_refl _) _).alloc (by simp) _⟩

set_option maxHeartbeats 800000 in
theorem cmpFF (c d : Array Value) (f g : Nat → Nat) (w : World) (hc : IsNum c false f) (hd : IsNum d false g) :
    Calls Tryd.prog 42 #[.agg c, .agg d] w fun e w' => e = .returned (.int .i64 (cmpI (wval f) (wval g))) ∧ Below w.heap.size w w' := by
  have h0 : ((w.alloc (.cells c 73)).alloc (.cells d 73)).cell? ⟨w.heap.size, 0, none⟩ = some (.bool false) := cell_of (heap_old _ (heap_new _ _ rfl)) _ hc.neg
  have h1 : ((w.alloc (.cells c 73)).alloc (.cells d 73)).cell? ⟨w.heap.size + 1, 0, none⟩ = some (.bool false) := cell_of (heap_new _ _ (by simp)) _ hd.neg
  have b1 : ((w.alloc (.cells c 73)).alloc (.cells d 73)).heap[w.heap.size]? = some (.cells c 73) := heap_old _ (heap_new _ _ rfl)
  have b2 : ((w.alloc (.cells c 73)).alloc (.cells d 73)).heap[w.heap.size + 1]? = some (.cells d 73) := heap_new _ _ (by simp)
  have hb : Below w.heap.size w ((w.alloc (.cells c 73)).alloc (.cells d 73)) := ((Below.refl _ _).alloc (Nat.le_refl _) _).alloc (by simp) _
  have hs : w.heap.size ≤ ((w.alloc (.cells c 73)).alloc (.cells d 73)).heap.size := by simp; omega
  have B1 := Lib.hid b1
  have B2 := Lib.hid b2
  clear b1 b2
  go_enter Tryd.func42, Tryd.ntmps42
  go_wp2_with (first
      | ((with_reducible refine wpList_load_num w.heap.size c ?_ ?_ (.tmp 2) ?_ ?_ ?_ ?_); exact B1.out; exact hc.size; rfl; rfl; rfl)
      | ((with_reducible refine wpList_load_num (w.heap.size + 1) d ?_ ?_ (.tmp 3) ?_ ?_ ?_ ?_); exact B2.out; exact hd.size; rfl; rfl; rfl)
      | (go_at_call 50; (with_reducible refine (cmpAmt c d _ _ _ _ hc hd _).mono ?_); rintro e w' ⟨rfl, hbel⟩))
  go_ret
  exact ⟨rfl, below_any hb hbel hs⟩
theorem cmpTF (c d : Array Value) (f g : Nat → Nat) (w : World) (hc : IsNum c true f) (hd : IsNum d false g) :
    Calls Tryd.prog 42 #[.agg c, .agg d] w fun e w' => e = .returned (.int .i64 (-1)) ∧ Below w.heap.size w w' := by
  have h0 : ((w.alloc (.cells c 73)).alloc (.cells d 73)).cell? ⟨w.heap.size, 0, none⟩ = some (.bool true) := cell_of (heap_old _ (heap_new _ _ rfl)) _ hc.neg
  have h1 : ((w.alloc (.cells c 73)).alloc (.cells d 73)).cell? ⟨w.heap.size + 1, 0, none⟩ = some (.bool false) := cell_of (heap_new _ _ (by simp)) _ hd.neg
  go_enter Tryd.func42, Tryd.ntmps42
  go_wp2_with fail
  go_ret
  exact ⟨rfl, ((Below.refl _ _).alloc (Nat.le_refl _) _).alloc (by simp) _⟩

set_option maxHeartbeats 800000 in
theorem cmpTT (c d : Array Value) (f g : Nat → Nat) (w : World) (hc : IsNum c true f) (hd : IsNum d true g) :
    Calls Tryd.prog 42 #[.agg c, .agg d] w fun e w' => e = .returned (.int .i64 (cmpI (wval g) (wval f))) ∧ Below w.heap.size w w' := by
  have h0 : ((w.alloc (.cells c 73)).alloc (.cells d 73)).cell? ⟨w.heap.size, 0, none⟩ = some (.bool true) := cell_of (heap_old _ (heap_new _ _ rfl)) _ hc.neg
  have h1 : ((w.alloc (.cells c 73)).alloc (.cells d 73)).cell? ⟨w.heap.size + 1, 0, none⟩ = some (.bool true) := cell_of (heap_new _ _ (by simp)) _ hd.neg
  have b1 : ((w.alloc (.cells c 73)).alloc (.cells d 73)).heap[w.heap.size]? = some (.cells c 73) := heap_old _ (heap_new _ _ rfl)
  have b2 : ((w.alloc (.cells c 73)).alloc (.cells d 73)).heap[w.heap.size + 1]? = some (.cells d 73) := heap_new _ _ (by simp)
  have hb : Below w.heap.size w ((w.alloc (.cells c 73)).alloc (.cells d 73)) := ((Below.refl _ _).alloc (Nat.le_refl _) _).alloc (by simp) _
  have hs : w.heap.size ≤ ((w.alloc (.cells c 73)).alloc (.cells d 73)).heap.size := by simp; omega
  have B1 := Lib.hid b1
  have B2 := Lib.hid b2
  clear b1 b2
  go_enter Tryd.func42, Tryd.ntmps42
  go_wp2_with (first
      | ((with_reducible refine wpList_load_num w.heap.size c ?_ ?_ (.tmp 2) ?_ ?_ ?_ ?_); exact B1.out; exact hc.size; rfl; rfl; rfl)
      | ((with_reducible refine wpList_load_num (w.heap.size + 1) d ?_ ?_ (.tmp 3) ?_ ?_ ?_ ?_); exact B2.out; exact hd.size; rfl; rfl; rfl)
      | (go_at_call 50; (with_reducible refine (cmpAmt d c _ _ _ _ hd hc _).mono ?_); rintro e w' ⟨rfl, hbel⟩))
  go_ret
  exact ⟨rfl, below_any hb hbel hs⟩
theorem cmpS_ff (x y : Nat) : cmpS false x false y = cmpI x y := by simp [cmpS]
theorem cmpS_ft (x y : Nat) : cmpS false x true y = 1 := by simp [cmpS]
theorem cmpS_tf (x y : Nat) : cmpS true x false y = -1 := by simp [cmpS]
theorem cmpS_tt (x y : Nat) : cmpS true x true y = cmpI y x := by simp [cmpS]

theorem cmpNum (c d : Array Value) (n m : Bool) (f g : Nat → Nat) (w : World) (hc : IsNum c n f) (hd : IsNum d m g) :
    Calls Tryd.prog 42 #[.agg c, .agg d] w fun e w' => e = .returned (.int .i64 (cmpS n (wval f) m (wval g))) ∧ Below w.heap.size w w' := by
  cases n <;> cases m
  · rw [cmpS_ff]; exact cmpFF c d f g w hc hd
  · rw [cmpS_ft]; exact cmpFT c d f g w hc hd
  · rw [cmpS_tf]; exact cmpTF c d f g w hc hd
  · rw [cmpS_tt]; exact cmpTT c d f g w hc hd

end Go.Proofs.YtoifjjgakblhhaaDoor
