/- powerOfTen, digit, put. -/
import Derived.Test.YtoifjjgakblhhaaDoorA0m
import Derived.Deep.RegionHeld3
namespace Go.Proofs.YtoifjjgakblhhaaDoor
open Go.RowKit

/-- Powers of ten behind a name. -/
def ten (e : Nat) : Nat := 10 ^ e

set_option maxHeartbeats 400000 in
theorem powTen (e : Int) (w : World) (h0 : 0 ≤ e) (h9 : e ≤ 8) :
    Calls Tryd.prog 67 #[.int .i64 e] w fun r w' => r = .returned (.int .u32 (ten e.toNat)) ∧ Below w.heap.size w w' := by
  have he : e = 0 ∨ e = 1 ∨ e = 2 ∨ e = 3 ∨ e = 4 ∨ e = 5 ∨ e = 6 ∨ e = 7 ∨ e = 8 := by omega
  rcases he with rfl | rfl | rfl | rfl | rfl | rfl | rfl | rfl | rfl
  all_goals
    go_enter Tryd.func67, Tryd.ntmps67
    go_wp2
    go_ret
    exact ⟨by simp [ten], (Below.refl _ _).alloc (Nat.le_refl _) _⟩

/-- What is loaded, at every world of the region. -/
def Holds1 (b o : Nat) (v : Value) (w : World) : Prop := w.cell? ⟨b, o, none⟩ = some v ∧ w.frozen? ⟨b, o, none⟩ = false ∧ b < w.heap.size
theorem Holds1.below {b o : Nat} {v : Value} {w w' : World} (h : Holds1 b o v w) (k : Below w.heap.size w w') : Holds1 b o v w' :=
  ⟨(k.cell (p := ⟨b, o, none⟩) h.2.2).trans h.1, (k.frozen (p := ⟨b, o, none⟩) h.2.2).trans h.2.1, Nat.lt_of_lt_of_le h.2.2 k.size⟩

end Go.Proofs.YtoifjjgakblhhaaDoor
