/- text: a number as a text. -/
import Derived.Test.YtoifjjgakblhhaaDoorB1m
import Derived.Deep.WholeRow
import Derived.Laws.IdiomStrings
namespace Go.Proofs.YtoifjjgakblhhaaDoor
open Go.RowKit

theorem digsOf_get (N lo n j : Nat) (h : j < n) : (digsOf N lo n)[j]? = some (digAt N (lo + (n - 1 - j))) := by
  induction n generalizing j with
  | zero => omega
  | succ n ih =>
    cases j with
    | zero => simp [digsOf]
    | succ j => simp only [digsOf, List.getElem?_cons_succ]; rw [ih j (by omega)]; congr 3; omega

/-- The digits' cells, the highest digit first. -/
structure IsDigs (d : Array Value) (k N : Nat) : Prop where
  size : d.size = 144
  at_ : ∀ j, 144 - k ≤ j → j < 144 → d[j]? = some (.int .u8 ((digAt N (143 - j)).toNat : Int))

theorem IsDigs.step {d : Array Value} {k N : Nat} (h : IsDigs d k N) (hk : k < 144) : IsDigs (d.setIfInBounds (143 - k) (.int .u8 ((digAt N k).toNat : Int))) (k + 1) N := by
  refine ⟨by simp [h.size], fun j h1 h2 => ?_⟩
  by_cases e : j = 143 - k
  · subst e
    rw [Array.getElem?_setIfInBounds_self_of_lt (by rw [h.size]; omega)]
    rw [show 143 - (143 - k) = k by omega]
  · rw [Array.getElem?_setIfInBounds_ne (by omega)]
    exact h.at_ j (by omega) h2

end Go.Proofs.YtoifjjgakblhhaaDoor
