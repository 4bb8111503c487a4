/- Texts of one kind, one behind the other: each says ahead of itself what it shows. -/
import Derived.Test.YtoifjjgakblhhaaGreatDoorA0m
import Derived.Deep.RegionHeld3
import Derived.Deep.RegionWith
/- powerOfTen, digit, put. -/
namespace Go.Proofs.YtoifjjgakblhhaaGreatDoor
open Go.RowKit

/-- Powers of ten behind a name. -/
def ten (e : Nat) : Nat := 10 ^ e

set_option maxHeartbeats 400000 in
theorem powTen (e : Int) (w : World) (h0 : 0 ≤ e) (h9 : e ≤ 8) :
    Calls Tryz.prog 200 #[.int .i64 e] w fun r w' => r = .returned (.int .u32 (ten e.toNat)) ∧ Below w.heap.size w w' := by
  have he : e = 0 ∨ e = 1 ∨ e = 2 ∨ e = 3 ∨ e = 4 ∨ e = 5 ∨ e = 6 ∨ e = 7 ∨ e = 8 := by omega
  rcases he with rfl | rfl | rfl | rfl | rfl | rfl | rfl | rfl | rfl
  all_goals
    go_enter Tryz.func200, Tryz.ntmps200
    go_wp2
    go_ret
    exact ⟨by simp [ten], (Below.refl _ _).alloc (Nat.le_refl _) _⟩

/-- What is loaded, at every world of the region. -/
def Holds1 (b o : Nat) (v : Value) (w : World) : Prop := w.cell? ⟨b, o, none⟩ = some v ∧ w.frozen? ⟨b, o, none⟩ = false ∧ b < w.heap.size
theorem Holds1.below {b o : Nat} {v : Value} {w w' : World} (h : Holds1 b o v w) (k : Below w.heap.size w w') : Holds1 b o v w' :=
  ⟨(k.cell (p := ⟨b, o, none⟩) h.2.2).trans h.1, (k.frozen (p := ⟨b, o, none⟩) h.2.2).trans h.2.1, Nat.lt_of_lt_of_le h.2.2 k.size⟩

end Go.Proofs.YtoifjjgakblhhaaGreatDoor

/- digit. -/
namespace Go.Proofs.YtoifjjgakblhhaaGreatDoor
open Go.RowKit

theorem powTenT (t e : Int) (w : World) (h0 : 0 ≤ e) (h9 : e ≤ 8) (H : Hid (t = ten e.toNat)) :
    Calls Tryz.prog 200 #[.int .i64 e] w fun r w' => r = .returned (.int .u32 t) ∧ Below w.heap.size w w' := by
  rw [H.out]; exact powTen e w h0 h9

theorem keep1 {b : Nat} {a : Addr} {v : Value} {W w w' : World} (h : w.cell? a = some v ∧ b < w.heap.size ∧ Below b W w) (ha : a.block = b) (k : Below w.heap.size w w') :
    w'.cell? a = some v ∧ b < w'.heap.size ∧ Below b W w' :=
  ⟨(k.cell (p := a) (by rw [ha]; exact h.2.1)).trans h.1, Nat.lt_of_lt_of_le h.2.1 k.size, h.2.2.trans (k.mono (Nat.le_of_lt h.2.1))⟩

set_option maxHeartbeats 400000 in
theorem digitAt (c : Array Value) (n : Bool) (f : Nat → Nat) (p : Int) (w : World) (hc : IsNum c n f) (hp0 : 0 ≤ p) (hp : p ≤ 143) :
    Calls Tryz.prog 185 #[.agg c, .int .i64 p] w fun e w' => e = .returned (.int .u8 (48 + (f (p.toNat / 9) / ten (p.toNat % 9) % 10 : Nat))) ∧ Below w.heap.size w w' := by
  go_enter Tryz.func185, Tryz.ntmps185
  go_wp2_with fail
  have hj : (p / 9).toNat < 16 := by omega
  have hp9 : p / 9 < 16 := by omega
  have hp8 : 0 ≤ p / 9 := by omega
  have hx : (w.alloc (.cells c 136)).cell? ⟨w.heap.size, 1 + (p / 9).toNat, none⟩ = some (.int .u32 (f (p / 9).toNat)) := cell_of (heap_new _ _ rfl) _ (hc.word _ hj)
  have hlt : f (p / 9).toNat < 1000000000 := hc.lt _ hj
  have hsz : w.heap.size < (w.alloc (.cells c 136)).heap.size := by simp
  have hb0 : Below w.heap.size w (w.alloc (.cells c 136)) := (Below.refl _ _).alloc (Nat.le_refl _) _
  generalize w.alloc (.cells c 136) = W at *
  have m0 : 0 ≤ p % 9 := by omega
  have m8 : p % 9 ≤ 8 := by omega
  obtain ⟨x, hx'⟩ : ∃ x : Int, x = f (p / 9).toNat := ⟨_, rfl⟩
  have hx0 : 0 ≤ x := by omega
  have hx9 : x < 1000000000 := by omega
  rw [← hx'] at hx
  obtain ⟨t, ht⟩ : ∃ t : Int, t = ten (p % 9).toNat := ⟨_, rfl⟩
  have ht1 : 1 ≤ t := by rw [ht]; unfold ten; have := Nat.pow_pos (n := (p % 9).toNat) (show 0 < 10 by omega); omega
  have hq0 : 0 ≤ x / t := Int.ediv_nonneg hx0 (by omega)
  have hq : x / t < 1000000000 := by have := Int.ediv_le_self t hx0; omega
  have HT := Lib.hid ht
  have HX := Lib.hid hx'
  clear ht hx'
  obtain ⟨q, hq'⟩ : ∃ q : Int, q = x / t := ⟨_, rfl⟩
  rw [← hq'] at hq hq0
  have n0 : (t == 0) = false := by simp; omega
  have n1 : ¬ t = 0 := by omega
  have e5 : IntKind.u32.wrap q = q := IntWalk.u32_in _ (by omega)
  have e7 : IntKind.u32.wrap (q % 10) = q % 10 := IntWalk.u32_in _ (by omega)
  have e8 : IntKind.u8.wrap (q % 10) = q % 10 := IntWalk.u8_in _ (by omega)
  have e9 : IntKind.u8.wrap (48 + q % 10) = 48 + q % 10 := IntWalk.u8_in _ (by omega)
  have e3 : IntKind.i64.wrap (p / 9) = p / 9 := IntWalk.i64_in _ (by omega)
  have e6 : q.tmod 10 = q % 10 := Int.tmod_eq_emod_of_nonneg hq0
  have e1 : p.tdiv 9 = p / 9 := Int.tdiv_eq_ediv_of_nonneg hp0
  have e2 : p.tmod 9 = p % 9 := Int.tmod_eq_emod_of_nonneg hp0
  have e4 : x.tdiv t = q := by rw [hq']; exact Int.tdiv_eq_ediv_of_nonneg hx0
  have HQ := Lib.hid hq'
  clear hq'
  go_region_held3 (fun w' => w'.cell? ⟨w.heap.size, 1 + (p / 9).toNat, none⟩ = some (.int .u32 x) ∧ w.heap.size < w'.heap.size ∧ Below w.heap.size W w') (first | exact ⟨hx, hsz, (Below.refl _ _).drew⟩ | exact keep1 (by assumption) rfl (by assumption) | go_keep)
    (first | (go_at_call 200; refine (powTenT t (p % 9) _ m0 m8 HT).mono ?_; rintro e w' ⟨rfl, hbel⟩))
  go_wp2
  go_ret
  refine ⟨?_, ?_⟩
  · have h1 := HX.out
    have h2 := HT.out
    have h3 := HQ.out
    have g1 : p.toNat / 9 = (p / 9).toNat := by omega
    have g2 : p.toNat % 9 = (p % 9).toNat := by clear e1 e2 e3; omega
    rw [g1, g2]
    show Ending.returned (.int .u8 (48 + q % 10)) = _
    rw [h3, h1, h2]
    rfl
  · exact below_any hb0.drew hbel (Nat.le_of_lt hsz)
theorem digitBelow (c : Array Value) (p : Int) (w : World) (hp : p < 0) :
    Calls Tryz.prog 185 #[.agg c, .int .i64 p] w fun e w' => e = .returned (.int .u8 48) ∧ Below w.heap.size w w' := by
  go_enter Tryz.func185, Tryz.ntmps185
  go_wp2
  go_ret
  exact ⟨rfl, (Below.refl _ _).alloc (Nat.le_refl _) _⟩

end Go.Proofs.YtoifjjgakblhhaaGreatDoor

/- put: a digit laid at its place. -/
namespace Go.Proofs.YtoifjjgakblhhaaGreatDoor
open Go.RowKit

set_option maxHeartbeats 400000 in
theorem putAt (b : Nat) (c : Array Value) (n : Bool) (f : Nat → Nat) (p d : Int) (w : World) (hb : w.heap[b]? = some (.cells c 136)) (hc : IsNum c n f)
    (hp0 : 0 ≤ p) (hp : p ≤ 143) (hd0 : 48 ≤ d) (hd : d ≤ 57) (hroom : (f (p / 9).toNat : Int) + (d - 48) * ten (p % 9).toNat < 1000000000) :
    Calls Tryz.prog 175 #[.pointer (some ⟨b, 0, none⟩), .int .i64 p, .int .u8 d] w fun e w' => e = .returned (.tuple #[]) ∧ Only b w w' ∧
      ∃ c', w'.heap[b]? = some (.cells c' 136) ∧ IsNum c' n (upd f (p / 9).toNat (f (p / 9).toNat + (d - 48).toNat * ten (p % 9).toNat)) := by
  have hsz := lt_of_heap hb
  have hj : (p / 9).toNat < 16 := by omega
  have hp9 : p / 9 < 16 := by omega
  have hp8 : 0 ≤ p / 9 := by omega
  have hx : w.cell? ⟨b, 1 + (p / 9).toNat, none⟩ = some (.int .u32 (f (p / 9).toNat)) := cell_of hb _ (hc.word _ hj)
  have hf : w.frozen? ⟨b, 1 + (p / 9).toNat, none⟩ = false := free_of hb _
  have hlt : f (p / 9).toNat < 1000000000 := hc.lt _ hj
  have m0 : 0 ≤ p % 9 := by omega
  have m8 : p % 9 ≤ 8 := by omega
  obtain ⟨x, hx'⟩ : ∃ x : Int, x = f (p / 9).toNat := ⟨_, rfl⟩
  have hx0 : 0 ≤ x := by omega
  have hx9 : x < 1000000000 := by omega
  rw [← hx'] at hx
  obtain ⟨t, ht⟩ : ∃ t : Int, t = ten (p % 9).toNat := ⟨_, rfl⟩
  rw [← hx', ← ht] at hroom
  have ht1 : 1 ≤ t := by rw [ht]; unfold ten; have := Nat.pow_pos (n := (p % 9).toNat) (show 0 < 10 by omega); omega
  obtain ⟨y, hy⟩ : ∃ y : Int, y = (d - 48) * t := ⟨_, rfl⟩
  have hy0 : 0 ≤ y := by rw [hy]; exact Int.mul_nonneg (by omega) (by omega)
  rw [← hy] at hroom
  have HT := Lib.hid ht
  have HX := Lib.hid hx'
  clear ht hx'
  have e5 : IntKind.u8.wrap (d - 48) = d - 48 := IntWalk.u8_in _ (by omega)
  have e6 : IntKind.u32.wrap (d - 48) = d - 48 := IntWalk.u32_in _ (by omega)
  have e7 : IntKind.u32.wrap y = y := IntWalk.u32_in _ (by omega)
  have e8 : IntKind.u32.wrap (x + y) = x + y := IntWalk.u32_in _ (by omega)
  have e3 : IntKind.i64.wrap (p / 9) = p / 9 := IntWalk.i64_in _ (by omega)
  have e1 : p.tdiv 9 = p / 9 := Int.tdiv_eq_ediv_of_nonneg hp0
  have e2 : p.tmod 9 = p % 9 := Int.tmod_eq_emod_of_nonneg hp0
  have e4 : (d - 48) * t = y := hy.symm
  have HY := Lib.hid hy
  clear hy
  go_enter Tryz.func175, Tryz.ntmps175
  go_wp2_with fail
  go_region_with (go_at_call 200; refine (powTenT t (p % 9) _ m0 m8 HT).mono ?_; rintro e w' ⟨rfl, hbel⟩; have hx2 := (hbel.cell (p := ⟨b, 1 + (p / 9).toNat, none⟩) hsz).trans hx; have hf2 := (hbel.frozen (p := ⟨b, 1 + (p / 9).toNat, none⟩) hsz).trans hf)
  all_goals
    go_wp2
    go_end0
    have hv : x + y = ((f (p / 9).toNat + (d - 48).toNat * ten (p % 9).toNat : Nat) : Int) := by
      rw [HX.out, HY.out, HT.out, Int.natCast_add, Int.natCast_mul, Int.toNat_of_nonneg (by omega)]
    have hw1 : w'.heap[b]? = some (.cells c 136) := (hbel.block b hsz).trans hb
    refine ⟨rfl, ((Only.refl b w).drew.trans (Only.of_below (b := b) hbel)).setCell _ _ _, _, heap_set hw1 _ _, ?_⟩
    have hval : f (p / 9).toNat + (d - 48).toNat * ten (p % 9).toNat < BASE := by unfold BASE; omega
    rw [hv]
    exact hc.set hj hval
end Go.Proofs.YtoifjjgakblhhaaGreatDoor
