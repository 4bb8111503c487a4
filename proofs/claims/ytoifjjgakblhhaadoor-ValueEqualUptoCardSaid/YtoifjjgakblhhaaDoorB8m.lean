/- times. -/
import Derived.Test.YtoifjjgakblhhaaDoorA8m
import Derived.Test.YtoifjjgakblhhaaDoorRm
import Derived.Test.YtoifjjgakblhhaaDoorGa
import Derived.Deep.LoopGhost
import Derived.WalkMore
namespace Go.Proofs.YtoifjjgakblhhaaDoor
open Go.RowKit

theorem Lies.drewN {w : World} {g : Nat} {c : Array Value} {n : Bool} {f : Nat → Nat} (h : Lies w g c n f) (k : Nat) : Lies (w.drewN k) g c n f := h

/-- What times leaves. -/
def ProdPost (sg : Bool) (f g : Nat → Nat) (w : World) (e : Ending) (w' : World) : Prop := ∃ c' h, e = .returned (.agg c') ∧ IsNum c' sg h ∧ wval h * 10 ^ 54 = wval f * wval g ∧ Below w.heap.size w w'

theorem Lies.set {w : World} {g : Nat} {c : Array Value} {n : Bool} {f : Nat → Nat} (h : Lies w g c n f) {k v : Nat} (hk : k < 16) (hv : v < BASE) :
    Lies (w.setCell ⟨g, 1 + k, none⟩ (.int .u32 v)) g (c.setIfInBounds (1 + k) (.int .u32 v)) n (upd f k v) := ⟨heap_set h.1 _ _, h.2.set hk hv⟩

end Go.Proofs.YtoifjjgakblhhaaDoor
