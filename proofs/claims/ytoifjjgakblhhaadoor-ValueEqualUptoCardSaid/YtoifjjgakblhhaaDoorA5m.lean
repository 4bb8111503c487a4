/- put: a digit laid at its place. -/
import Derived.Test.YtoifjjgakblhhaaDoorA4m
namespace Go.Proofs.YtoifjjgakblhhaaDoor
open Go.RowKit

set_option maxHeartbeats 400000 in
theorem putAt (b : Nat) (c : Array Value) (n : Bool) (f : Nat → Nat) (p d : Int) (w : World) (hb : w.heap[b]? = some (.cells c 73)) (hc : IsNum c n f)
    (hp0 : 0 ≤ p) (hp : p ≤ 143) (hd0 : 48 ≤ d) (hd : d ≤ 57) (hroom : (f (p / 9).toNat : Int) + (d - 48) * ten (p % 9).toNat < 1000000000) :
    Calls Tryd.prog 55 #[.pointer (some ⟨b, 0, none⟩), .int .i64 p, .int .u8 d] w fun e w' => e = .returned (.tuple #[]) ∧ Only b w w' ∧
      ∃ c', w'.heap[b]? = some (.cells c' 73) ∧ IsNum c' n (upd f (p / 9).toNat (f (p / 9).toNat + (d - 48).toNat * ten (p % 9).toNat)) := by
  have hsz := lt_of_heap hb
  have hj : (p / 9).toNat < 16 := by omega
  have hp9 : p / 9 < 16 := by omega
  have hp8 : 0 ≤ p / 9 := by omega
  have hx : w.cell? ⟨b, 1 + (p / 9).toNat, none⟩ = some (.int .u32 (f (p / 9).toNat)) := cell_of hb _ (hc.word _ hj)
  have hf : w.frozen? ⟨b, 1 + (p / 9).toNat, none⟩ = false := free_of hb _
  have hlt : f (p / 9).toNat < 1000000000 := hc.lt _ hj
  have m0 : 0 ≤ p % 9 := by omega
  have m8 : p % 9 ≤ 8 := by omega
  obtain ⟨x, hx'⟩ : ∃ x : Int, x = f (p / 9).toNat := ⟨_, rfl⟩
  have hx0 : 0 ≤ x := by omega
  have hx9 : x < 1000000000 := by omega
  rw [← hx'] at hx
  obtain ⟨t, ht⟩ : ∃ t : Int, t = ten (p % 9).toNat := ⟨_, rfl⟩
  rw [← hx', ← ht] at hroom
  have ht1 : 1 ≤ t := by rw [ht]; unfold ten; have := Nat.pow_pos (n := (p % 9).toNat) (show 0 < 10 by omega); omega
  obtain ⟨y, hy⟩ : ∃ y : Int, y = (d - 48) * t := ⟨_, rfl⟩
  have hy0 : 0 ≤ y := by rw [hy]; exact Int.mul_nonneg (by omega) (by omega)
  rw [← hy] at hroom
  have HT := Lib.hid ht
  have HX := Lib.hid hx'
  clear ht hx'
  have e5 : IntKind.u8.wrap (d - 48) = d - 48 := IntWalk.u8_in _ (by omega)
  have e6 : IntKind.u32.wrap (d - 48) = d - 48 := IntWalk.u32_in _ (by omega)
  have e7 : IntKind.u32.wrap y = y := IntWalk.u32_in _ (by omega)
  have e8 : IntKind.u32.wrap (x + y) = x + y := IntWalk.u32_in _ (by omega)
  have e3 : IntKind.i64.wrap (p / 9) = p / 9 := IntWalk.i64_in _ (by omega)
  have e1 : p.tdiv 9 = p / 9 := Int.tdiv_eq_ediv_of_nonneg hp0
  have e2 : p.tmod 9 = p % 9 := Int.tmod_eq_emod_of_nonneg hp0
  have e4 : (d - 48) * t = y := hy.symm
  have HY := Lib.hid hy
  clear hy
  go_enter Tryd.func55, Tryd.ntmps55
  go_wp2_with fail
  go_region_with (go_at_call 67; refine (powTenT t (p % 9) _ m0 m8 HT).mono ?_; rintro e w' ⟨rfl, hbel⟩; have hx2 := (hbel.cell (p := ⟨b, 1 + (p / 9).toNat, none⟩) hsz).trans hx; have hf2 := (hbel.frozen (p := ⟨b, 1 + (p / 9).toNat, none⟩) hsz).trans hf)
  all_goals
    go_wp2
    go_end0
    have hv : x + y = ((f (p / 9).toNat + (d - 48).toNat * ten (p % 9).toNat : Nat) : Int) := by
      rw [HX.out, HY.out, HT.out, Int.natCast_add, Int.natCast_mul, Int.toNat_of_nonneg (by omega)]
    have hw1 : w'.heap[b]? = some (.cells c 73) := (hbel.block b hsz).trans hb
    refine ⟨rfl, ((Only.refl b w).drew.trans (Only.of_below (b := b) hbel)).setCell _ _ _, _, heap_set hw1 _ _, ?_⟩
    have hval : f (p / 9).toNat + (d - 48).toNat * ten (p % 9).toNat < BASE := by unfold BASE; omega
    rw [hv]
    exact hc.set hj hval
end Go.Proofs.YtoifjjgakblhhaaDoor
