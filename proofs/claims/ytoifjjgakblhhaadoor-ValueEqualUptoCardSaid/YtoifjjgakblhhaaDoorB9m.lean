/- Mul, Neg, OfInt. -/
import Derived.Test.YtoifjjgakblhhaaDoorB7m
import Derived.Test.YtoifjjgakblhhaaDoorB8m
namespace Go.Proofs.YtoifjjgakblhhaaDoor
open Go.RowKit

/-- The table of powers of ten is as the library's text lays it. -/
def Tab (w : World) : Prop := Lib.TabIs Tryd.prog w "internal/strconv.uint64pow10" .u64 Lib.pow10Tab

theorem var_below {P : Program} {w w' : World} {name : String} {cs : Array Value} (h : w.var? P name = some cs) (k : Below w.heap.size w w') : w'.var? P name = some cs := by
  unfold World.var? at *
  cases hg : P.globalNamed name with
  | none => rw [hg] at h; cases h
  | some g =>
    rw [hg] at h
    simp only [Option.bind_some] at h ⊢
    have hlt : g < w.heap.size := by
      by_cases e : g < w.heap.size
      · exact e
      · rw [Array.getElem?_eq_none (by omega)] at h; cases h
    rw [k.block g hlt]; exact h
theorem Tab.below {w w' : World} (h : Tab w) (k : Below w.heap.size w w') : Tab w' := by
  exact var_below h k

theorem ofIntAt (n : Int) (h0 : -9223372036854775808 ≤ n) (h1 : n ≤ 9223372036854775807) (w : World) (hT : Tab w) (X : ByteArray) (hX : X = bs (Lib.itoa n)) (hs : X.size ≤ 20) :
    Calls Tryd.prog 43 #[.int .i64 n] w fun e w' => e = .returned (.string (X ++ ⟨#[46, 48]⟩)) ∧ Below w.heap.size w w' := by
  have hc : ∀ W, Tab W → Calls Tryd.prog 51 #[.int .i64 n, .int .i64 10] W fun e w' => e = .returned (.string X) ∧ Below W.heap.size W w' := fun W hW => by
    refine (Tryd.strconv_FormatInt_10 n h0 h1 W hW).mono ?_
    rintro e w' ⟨rfl, k, os, rfl⟩
    refine ⟨by rw [hX], ?_⟩
    exact (below_drewN (Below.refl _ _) k).trans ⟨rfl, rfl, rfl, by simp [Sort.grow], fun i hi => by simp only [Sort.grow]; rw [Array.getElem?_append_left (by exact hi)]⟩
  have HC := Lib.hid hc
  clear hc hX
  go_enter Tryd.func43, Tryd.ntmps43
  go_wp2_with (go_at_call 51; (with_reducible refine (HC.out _ hT).mono ?_); rintro e w1 ⟨rfl, hb⟩)
  go_ret
  exact ⟨rfl, hb⟩

end Go.Proofs.YtoifjjgakblhhaaDoor
