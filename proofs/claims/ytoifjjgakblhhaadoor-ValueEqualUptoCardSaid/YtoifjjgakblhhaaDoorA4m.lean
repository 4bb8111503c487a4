/- digit. -/
import Derived.Test.YtoifjjgakblhhaaDoorA3m
import Derived.Deep.RegionHeld3
import Derived.Deep.RegionWith
namespace Go.Proofs.YtoifjjgakblhhaaDoor
open Go.RowKit

theorem powTenT (t e : Int) (w : World) (h0 : 0 ≤ e) (h9 : e ≤ 8) (H : Hid (t = ten e.toNat)) :
    Calls Tryd.prog 67 #[.int .i64 e] w fun r w' => r = .returned (.int .u32 t) ∧ Below w.heap.size w w' := by
  rw [H.out]; exact powTen e w h0 h9

theorem keep1 {b : Nat} {a : Addr} {v : Value} {W w w' : World} (h : w.cell? a = some v ∧ b < w.heap.size ∧ Below b W w) (ha : a.block = b) (k : Below w.heap.size w w') :
    w'.cell? a = some v ∧ b < w'.heap.size ∧ Below b W w' :=
  ⟨(k.cell (p := a) (by rw [ha]; exact h.2.1)).trans h.1, Nat.lt_of_lt_of_le h.2.1 k.size, h.2.2.trans (k.mono (Nat.le_of_lt h.2.1))⟩

end Go.Proofs.YtoifjjgakblhhaaDoor
