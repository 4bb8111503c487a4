/- Whether a value has nothing beside its kind. -/
import Derived.Test.YtffbcccbhofbpaaDoorN2
namespace Go.Proofs.YtffbcccbhofbpaaDoor
open Go.RowKit

def bareP (b : Bool) (n : Int) (t x : ByteArray) (len : Nat) : Bool := !b && decide (n = 0) && decide (t.size = 0) && decide (x.size = 0) && decide (len = 0)

theorem isBareAt (k : Int) (b : Bool) (n : Int) (t x : ByteArray) (p : Option Addr) (len cap : Nat) (w : World) :
    Calls Tryd.prog 87 #[.agg #[.int .i64 k, .bool b, .int .i64 n, .string t, .string x, .slice p len cap]] w fun e w' => e = .returned (.bool (bareP b n t x len)) ∧ Below w.heap.size w w' := by
  have h1 : (w.alloc (.cells #[.int .i64 k, .bool b, .int .i64 n, .string t, .string x, .slice p len cap] 89)).cell? ⟨w.heap.size, 1, none⟩ = some (.bool b) := cell_of (heap_new _ _ rfl) _ rfl
  have h2 : (w.alloc (.cells #[.int .i64 k, .bool b, .int .i64 n, .string t, .string x, .slice p len cap] 89)).cell? ⟨w.heap.size, 2, none⟩ = some (.int .i64 n) := cell_of (heap_new _ _ rfl) _ rfl
  have h3 : (w.alloc (.cells #[.int .i64 k, .bool b, .int .i64 n, .string t, .string x, .slice p len cap] 89)).cell? ⟨w.heap.size, 3, none⟩ = some (.string t) := cell_of (heap_new _ _ rfl) _ rfl
  have h4 : (w.alloc (.cells #[.int .i64 k, .bool b, .int .i64 n, .string t, .string x, .slice p len cap] 89)).cell? ⟨w.heap.size, 4, none⟩ = some (.string x) := cell_of (heap_new _ _ rfl) _ rfl
  have h5 : (w.alloc (.cells #[.int .i64 k, .bool b, .int .i64 n, .string t, .string x, .slice p len cap] 89)).cell? ⟨w.heap.size, 5, none⟩ = some (.slice p len cap) := cell_of (heap_new _ _ rfl) _ rfl
  cases b with
  | true =>
    go_enter Tryd.func87, Tryd.ntmps87
    go_wp2_with fail
    go_ret
    exact ⟨rfl, below1 _ _⟩
  | false =>
    by_cases e2 : n = 0
    · subst e2
      by_cases e3 : t.toList.isEmpty = true
      · have s3 := (empty_iff t).1 e3
        by_cases e4 : x.toList.isEmpty = true
        · have s4 := (empty_iff x).1 e4
          have hv : bareP false 0 t x len = ((len : Int) == 0) := by
            unfold bareP
            rw [s3, s4, Bool.eq_iff_iff]
            simp
          rw [hv]
          clear hv s3 s4
          go_enter Tryd.func87, Tryd.ntmps87
          go_wp2_with fail
          go_ret
          exact ⟨rfl, below1 _ _⟩
        · have s4 : ¬ x.size = 0 := mt (empty_iff x).2 e4
          have e4' : x.toList.isEmpty = false := by simpa using e4
          have hv : bareP false 0 t x len = false := by simp [bareP, s4]
          rw [hv]
          clear hv s3 s4 e4
          go_enter Tryd.func87, Tryd.ntmps87
          go_wp2_with fail
          go_ret
          exact ⟨rfl, below1 _ _⟩
      · have s3 : ¬ t.size = 0 := mt (empty_iff t).2 e3
        have e3' : t.toList.isEmpty = false := by simpa using e3
        have hv : bareP false 0 t x len = false := by simp [bareP, s3]
        rw [hv]
        clear hv s3 e3
        go_enter Tryd.func87, Tryd.ntmps87
        go_wp2_with fail
        go_ret
        exact ⟨rfl, below1 _ _⟩
    · have hv : bareP false n t x len = false := by simp [bareP, e2]
      rw [hv]
      clear hv
      go_enter Tryd.func87, Tryd.ntmps87
      go_wp2_with fail
      go_ret
      exact ⟨rfl, below1 _ _⟩
end Go.Proofs.YtffbcccbhofbpaaDoor
