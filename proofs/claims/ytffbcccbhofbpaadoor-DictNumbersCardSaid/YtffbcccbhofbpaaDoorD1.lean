/- A text that is laid down is copied. -/
import Derived.Test.YtffbcccbhofbpaaDoorD0
namespace Go.Proofs.YtffbcccbhofbpaaDoor
open Go.RowKit

theorem ta130 (p : Option Addr) (w : World) : (Instr.typeAssert (.iface 130 (.pointer p)) 20 130 true).run Tryd.prog w = .ok (.tuple #[.pointer p, .bool true]) w := by kernel_rfl
theorem cloneAt (s : ByteArray) (w : World) (h : s.size ≤ maxLen) (h2 : s.size ≤ 281474976710656) :
    Calls Tryd.prog 71 #[.string s] w fun e w' => e = .returned (.string s) ∧ Below w.heap.size w w' := by
  go_enter Tryd.func71, Tryd.ntmps71
  go_wp2_with (go_at_call 77; (with_reducible refine (Tryd.stringslite_Clone s _ h2).mono ?_); rintro e w' ⟨rfl, hb⟩)
  go_ret
  exact ⟨rfl, hb⟩
theorem ownStr (s : ByteArray) (w : World) (h : s.size ≤ maxLen) (h2 : s.size ≤ 281474976710656) :
    Calls Tryd.prog 64 #[.string s] w fun e w' => e = .returned (.string s) ∧ Below w.heap.size w w' := by
  obtain ⟨W0, hW0⟩ : ∃ W0, W0 = w.alloc (.cells #[.string s] 9) := ⟨_, rfl⟩
  have hb0 : Below w.heap.size w W0 := by rw [hW0]; exact below1 _ _
  have hc0 : W0.heap[w.heap.size]? = some (.cells #[.string s] 9) := by rw [hW0]; exact heap_new _ _ rfl
  have c0 := cell_of hc0 0 rfl
  have H0 := Lib.hid hW0
  clear hW0
  go_enter Tryd.func64, Tryd.ntmps64
  go_wp2_with (first
    | (simp only [ta130, Result.andThen_ok])
    | (go_at_call 71; rw [← H0.out]; (with_reducible refine (cloneAt s _ h h2).mono ?_); rintro e w1 ⟨rfl, hb⟩; have hc1 := (hb.block _ (lt_of_heap hc0)).trans hc0; have b1 := below_any hb0 hb hb0.size; have c1 := cell_of hc1 0 rfl; have f1 := free_of hc1 0))
  go_ret
  exact ⟨rfl, below_set b1 none _ (Nat.le_refl _) b1.size⟩
end Go.Proofs.YtffbcccbhofbpaaDoor
