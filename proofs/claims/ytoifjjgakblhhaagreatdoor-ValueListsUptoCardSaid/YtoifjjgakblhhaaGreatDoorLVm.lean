/- What a law's round keeps: its argument's box; the value that has nothing in it. -/
import Derived.Test.YtoifjjgakblhhaaGreatDoorGh
import Derived.Test.YtoifjjgakblhhaaGreatDoorGx
import Derived.Deep.LoopGhost
import Derived.Deep.Cut
import Derived.Deep.CutRange
import Derived.Deep.CutBlock
import Derived.Deep.DeepCutAuto
namespace Go.Proofs.YtoifjjgakblhhaaGreatDoor
open Go.RowKit

/-- What the law's round keeps: its argument's box; what lay below. -/
structure LInv (w : World) (L ln : Value) (W : World) : Prop where
  cell : W.cell? ⟨w.heap.size, 0, none⟩ = some L
  cell1 : W.cell? ⟨w.heap.size, 1, none⟩ = some ln
  lt : w.heap.size < W.heap.size
  bel : Below w.heap.size w W
theorem LInv.step {w W W2 : World} {L ln : Value} (h : LInv w L ln W) (k : Below W.heap.size W W2) : LInv w L ln W2 :=
  ⟨(k.cell (p := ⟨w.heap.size, 0, none⟩) h.lt).trans h.cell, (k.cell (p := ⟨w.heap.size, 1, none⟩) h.lt).trans h.cell1, Nat.lt_of_lt_of_le h.lt k.size, below_any h.bel k (Nat.le_of_lt h.lt)⟩
theorem LInv.start (w : World) (L ln : Value) : LInv w L ln (w.alloc (.cells #[L, ln] 24)) :=
  ⟨cell_of (heap_new _ _ rfl) _ rfl, cell_of (heap_new _ _ rfl) _ rfl, by simp, below1 _ _⟩
theorem lFineNull : Fine 0 ⟨#[]⟩ ⟨#[]⟩ ([] : List Val).length := ⟨by decide, by decide, by decide, by decide, by decide⟩
theorem lHeldNull (W : World) : Held W (.slice none ([] : List Val).length 0) [] := by unfold Held; exact ⟨none, 0, rfl⟩

end Go.Proofs.YtoifjjgakblhhaaGreatDoor
