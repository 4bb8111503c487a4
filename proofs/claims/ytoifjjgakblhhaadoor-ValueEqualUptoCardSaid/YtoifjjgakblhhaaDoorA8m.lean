/- plus. -/
import Derived.Test.YtoifjjgakblhhaaDoorA6m
import Derived.Test.YtoifjjgakblhhaaDoorGa
namespace Go.Proofs.YtoifjjgakblhhaaDoor
open Go.RowKit

theorem AddTo.done {f g h : Nat → Nat} {c : Nat} (H : AddTo f g h c 16) (hs : wval f + wval g < BASE ^ 16) : wval h = wval f + wval g := by
  have s := H.sum
  have hc : c = 0 := by
    by_cases e : c = 0
    · exact e
    · have : 1 * BASE ^ 16 ≤ c * BASE ^ 16 := Nat.mul_le_mul_right _ (by omega)
      unfold wval at hs; omega
  subst hc
  unfold wval at *; omega

theorem TakeFrom.done {f g h : Nat → Nat} {c : Nat} (H : TakeFrom f g h c 16) (hs : wval g ≤ wval f) (hf : Words f) : wval h + wval g = wval f := by
  have s := H.sum
  have hl := vN_lt h H.words 16 (by omega)
  have hc : c = 0 := by
    by_cases e : c = 0
    · exact e
    · have : 1 * BASE ^ 16 ≤ c * BASE ^ 16 := Nat.mul_le_mul_right _ (by omega)
      unfold wval at hs; omega
  subst hc
  unfold wval; omega

theorem below3 (w : World) (a b c : Obj) : Below w.heap.size w (((w.alloc a).alloc b).alloc c) := (((Below.refl _ _).alloc (Nat.le_refl _) _).alloc (by simp) _).alloc (by simp; omega) _

end Go.Proofs.YtoifjjgakblhhaaDoor
