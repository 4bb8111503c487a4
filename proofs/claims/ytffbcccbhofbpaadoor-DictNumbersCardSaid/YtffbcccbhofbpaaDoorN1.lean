/- The small type that stands for a value's kind. -/
import Derived.Test.YtffbcccbhofbpaaDoorN0
namespace Go.Proofs.YtffbcccbhofbpaaDoor
open Go.RowKit

/-- The number of the small type that stands for a kind. -/
def kindT (k : Int) : Nat :=
  if k = 0 then 159 else if k = 1 then 145 else if k = 2 then 147 else if k = 3 then 151 else if k = 4 then 152 else if k = 5 then 157 else
  if k = 6 then 148 else if k = 7 then 149 else if k = 8 then 153 else if k = 9 then 154 else if k = 10 then 156 else 162

theorem kindOfAt (k : Int) (b : Bool) (n : Int) (t x : ByteArray) (L : Value) (T : Nat) (hT : T = kindT k) (w : World) :
    Calls Tryd.prog 79 #[.agg #[.int .i64 k, .bool b, .int .i64 n, .string t, .string x, L]] w fun e w' => e = .returned (.iface T (.agg #[])) ∧ Below w.heap.size w w' := by
  have h0 : (w.alloc (.cells #[.int .i64 k, .bool b, .int .i64 n, .string t, .string x, L] 89)).cell? ⟨w.heap.size, 0, none⟩ = some (.int .i64 k) := cell_of (heap_new _ _ rfl) _ rfl
  subst hT
  by_cases h : 0 ≤ k ∧ k ≤ 10
  · obtain ⟨h1, h2⟩ := h
    obtain ⟨j, rfl⟩ : ∃ j : Nat, k = j := ⟨k.toNat, by omega⟩
    have hj : j ≤ 10 := by omega
    clear h1 h2
    match j, hj, h0 with
    | 0, _, h0 | 1, _, h0 | 2, _, h0 | 3, _, h0 | 4, _, h0 | 5, _, h0 | 6, _, h0 | 7, _, h0 | 8, _, h0 | 9, _, h0 | 10, _, h0 =>
      go_enter Tryd.func79, Tryd.ntmps79
      go_wp2_with fail
      go_ret
      exact ⟨rfl, below1 _ _⟩
  · have e0 : k ≠ 0 := by omega
    have e1 : k ≠ 1 := by omega
    have e2 : k ≠ 2 := by omega
    have e3 : k ≠ 3 := by omega
    have e4 : k ≠ 4 := by omega
    have e5 : k ≠ 5 := by omega
    have e6 : k ≠ 6 := by omega
    have e7 : k ≠ 7 := by omega
    have e8 : k ≠ 8 := by omega
    have e9 : k ≠ 9 := by omega
    have e10 : k ≠ 10 := by omega
    have hv : kindT k = 162 := by simp [kindT, e0, e1, e2, e3, e4, e5, e6, e7, e8, e9, e10]
    rw [hv]
    clear h hv
    go_enter Tryd.func79, Tryd.ntmps79
    go_wp2_with fail
    go_ret
    exact ⟨rfl, below1 _ _⟩
end Go.Proofs.YtffbcccbhofbpaaDoor
