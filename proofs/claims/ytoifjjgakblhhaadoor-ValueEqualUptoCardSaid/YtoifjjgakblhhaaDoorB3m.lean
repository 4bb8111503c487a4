/- over: the quotient's digits. -/
import Derived.Test.YtoifjjgakblhhaaDoorB2m
import Derived.Test.YtoifjjgakblhhaaDoorA8m
import Derived.Test.YtoifjjgakblhhaaDoorGa
import Derived.WalkMore
import Derived.Deep.LoopGhost
import Derived.OwnWalk
namespace Go.Proofs.YtoifjjgakblhhaaDoor
open Go.RowKit

theorem Only.grown {b : Nat} {w w' : World} (h : Only b w w') : w.grownBy w' (some b) :=
  ⟨h.os, h.tape, h.output, h.size, fun k hk e => h.block k hk (by rintro rfl; exact e rfl)⟩
theorem below_grown {w w' : World} (h : Below w.heap.size w w') : w.grownBy w' none :=
  ⟨h.os, h.tape, h.output, h.size, fun k hk _ => h.block k hk⟩

theorem info5 : (Tryd.prog.info? 5).map (fun i => (i.zero, i.size, i.bytes)) = some (some (.int .u8 0), 1, 1) := by kernel_rfl

theorem below4 (w : World) (a b c d : Obj) : Below w.heap.size w ((((w.alloc a).alloc b).alloc c).alloc d) := (below3 w a b c).alloc (by simp; omega) _

theorem Lies.grown {w w' : World} {g b : Nat} {c : Array Value} {n : Bool} {f : Nat → Nat} (h : Lies w g c n f) (k : w.grownBy w' (some b)) (e : g ≠ b) : Lies w' g c n f :=
  ⟨(k.block g (lt_of_heap h.1) (by simpa using e)).trans h.1, h.2⟩

/-- The bytes of a list, as values. -/
def vals (l : List UInt8) : List Value := l.map fun b => .int .u8 (b.toNat : Int)
theorem vals_snoc (l : List UInt8) (j : Nat) (h : j ≤ 9) : vals (l ++ [digB j]) = vals l ++ [.int .u8 (48 + (j : Int))] := by
  unfold vals
  rw [List.map_append, List.map_cons, List.map_nil, digB_toNat h]
  rfl

theorem ownsRow_start (w : World) {g : Nat} (e : w.heap.size = g) : (w.alloc (.cells (Array.replicate 164 (.int .u8 0)) 5)).ownsRow g 5 1 (.slice (some ⟨g, 0, none⟩) 0 164) 0 (vals []) := by
  refine ⟨rfl, .inr ⟨g, 164, _, rfl, Nat.le_refl _, heap_new _ _ e, by omega, by unfold maxLen; omega, by simp, rfl⟩⟩

end Go.Proofs.YtoifjjgakblhhaaDoor
