/- compareAmount: which of two amounts is the greater. -/
import Derived.Test.YtoifjjgakblhhaaDoorA0m
namespace Go.Proofs.YtoifjjgakblhhaaDoor
open Go.RowKit

set_option maxHeartbeats 400000 in
theorem cmpAmt (c d : Array Value) (n m : Bool) (xs ys : Nat → Nat) (hc : IsNum c n xs) (hd : IsNum d m ys) (w : World) :
    Calls Tryd.prog 50 #[.agg c, .agg d] w fun e w' => e = .returned (.int .i64 (cmpI (wval xs) (wval ys))) ∧ Below w.heap.size w w' := by
  go_enter Tryd.func50, Tryd.ntmps50
  go_wp2
  go_loopw [5] (fun i wr => ∃ k : Int, -1 ≤ k ∧ k ≤ 15 ∧ i = .int .i64 k ∧ (∀ j : Nat, k < j → j < 16 → xs j = ys j) ∧ wr.heap[w.heap.size]? = some (.cells c 73) ∧ wr.heap[w.heap.size+1]? = some (.cells d 73) ∧ Below w.heap.size w wr) (fun i _ => (intOf i + 1).toNat)
  case atStart =>
    refine ⟨15, by omega, by omega, rfl, fun j a b => by omega, ?_, ?_, ?_⟩
    · rw [Below.heap_alloc _ _ _ (by simp)]; exact heap_new _ _ rfl
    · exact heap_new _ _ (by simp)
    · exact ((Below.refl _ _).alloc (Nat.le_refl _) _).alloc (by simp) _
  case round =>
    obtain ⟨k, hk1, hk2, rfl, heq, hb1, hb2, hbel⟩ := hrel
    have HE := Lib.hid heq
    clear heq
    have B1 := Lib.hid hb1
    have B2 := Lib.hid hb2
    clear hb1 hb2
    by_cases hk : 0 ≤ k
    · obtain ⟨k, rfl⟩ := Int.eq_ofNat_of_zero_le hk
      have hx : wr.cell? ⟨w.heap.size, 1 + k, none⟩ = some (.int .u32 (xs k)) := cell_of B1.out _ (hc.word k (by omega))
      have hy : wr.cell? ⟨w.heap.size + 1, 1 + k, none⟩ = some (.int .u32 (ys k)) := cell_of B2.out _ (hd.word k (by omega))
      have hkk : (k : Int) < 16 := by omega
      rcases Nat.lt_trichotomy (xs k) (ys k) with h | h | h
      · go_wp2
        go_quiet (fail)
        go_wp2
        go_ret
        refine ⟨?_, below_drewN hbel _⟩
        rw [cmpI_lt (wval_lt_of xs ys hc.lt k (by omega) (fun j a b => HE.out j (by omega) b) h)]; rfl
      · have HH := Lib.hid h
        clear h
        have h1 : decide (xs k < ys k) = false := by have := HH.out; simp; omega
        have h2 : decide (ys k < xs k) = false := by have := HH.out; simp; omega
        go_wp2
        go_quiet (fail)
        go_wp2
        go_quiet (fail)
        go_wp2
        go_roundw
        case rel => exact ⟨_, by omega, by omega, rfl, fun j a b => (if e : j = k then by rw [e]; exact HH.out else HE.out j (by omega) b), B1.out, B2.out, below_drewN hbel _⟩
        case measure => simp [intOf]
      · go_wp2
        go_quiet (fail)
        go_wp2
        go_quiet (fail)
        go_wp2
        go_ret
        refine ⟨?_, below_drewN (below_drewN hbel _) _⟩
        rw [cmpI_gt (wval_lt_of ys xs hd.lt k (by omega) (fun j a b => (HE.out j (by omega) b).symm) h)]; rfl
    · go_wp2
      go_ret
      refine ⟨?_, hbel⟩
      rw [cmpI_eq (wval_eq_of xs ys fun j hj => HE.out j (by omega) hj)]; rfl
end Go.Proofs.YtoifjjgakblhhaaDoor
