/- What a law of numbers keeps from round to round. -/
import Derived.Test.YtdnijfkiebpnpaaL6
import Derived.Deep.LoopGhost
import Derived.Deep.DeepCutAuto
import Derived.BigGuardPart
import Derived.Lib.Hide
namespace Go.Proofs.Ytdnijfkiebpnpaa
open Go.RowKit

/-- The numbers, in memory. -/
def Elems (w : World) (b off n : Nat) (Z : Nat → Int) : Prop := ∀ i, i < n → w.cell? ⟨b, off + i, none⟩ = some (.int .i64 (Z i))
theorem Elems.below {w w' : World} {b off n : Nat} {Z : Nat → Int} (h : Elems w b off n Z) (k : Below w.heap.size w w') : Elems w' b off n Z := fun i hi =>
  (k.cell (p := ⟨b, off + i, none⟩) (World.block_lt_of_cell? w _ (h i hi))).trans (h i hi)
structure Inv (w : World) (b off n cap : Nat) (Z : Nat → Int) (wr : World) : Prop where
  cell : wr.cell? ⟨w.heap.size, 0, none⟩ = some (.slice (some ⟨b, off, none⟩) n cap)
  lt : w.heap.size < wr.heap.size
  bel : Below w.heap.size w wr
  s : Elems wr b off n Z
theorem cell_new1 (w : World) (v : Value) (t : TypeId) : (w.alloc (.cells #[v] t)).cell? ⟨w.heap.size, 0, none⟩ = some v := by simp
theorem Inv.step {w wr w' : World} {b off n cap : Nat} {Z : Nat → Int} (h : Inv w b off n cap Z wr) (k : Below wr.heap.size wr w') : Inv w b off n cap Z w' :=
  ⟨(k.cell (p := ⟨w.heap.size, 0, none⟩) h.lt).trans h.cell, Nat.lt_of_lt_of_le h.lt k.size, h.bel.trans (k.mono (Nat.le_of_lt h.lt)), h.s.below k⟩
theorem Inv.start {w : World} {b off n cap : Nat} {Z : Nat → Int} (hS : Elems w b off n Z) : Inv w b off n cap Z (w.alloc (.cells #[.slice (some ⟨b, off, none⟩) n cap] 24)) :=
  ⟨cell_new1 _ _ _, by simp, below1 _ _, hS.below (below1 _ _)⟩
end Go.Proofs.Ytdnijfkiebpnpaa
