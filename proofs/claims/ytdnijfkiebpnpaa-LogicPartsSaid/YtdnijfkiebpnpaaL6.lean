/- Calls at one of the three. -/
import Derived.Test.YtdnijfkiebpnpaaL5
namespace Go.Proofs.Ytdnijfkiebpnpaa
open Go.RowKit

/-- One of the three. -/
def T3 (a : Int) : Prop := a = 0 ∨ a = 1 ∨ a = 2
theorem t3_tr {a : Int} (h : T3 a) : tr a = a := by rcases h with rfl | rfl | rfl <;> rfl
theorem t3_of_tr (a : Int) : T3 (tr a) := by rcases tr_cases a with h | h | h <;> rw [h] <;> simp [T3]
theorem t3_not (a : Int) : T3 (notT a) := by unfold notT; split <;> (try split) <;> simp [T3]
theorem t3_and (a b : Int) : T3 (andT a b) := by unfold andT; split <;> (try split) <;> simp [T3]
theorem t3_or (a b : Int) : T3 (orT a b) := by unfold orT; split <;> (try split) <;> simp [T3]
theorem t3_xor (a b : Int) : T3 (xorT a b) := by unfold xorT; split <;> (try split) <;> simp [T3]
theorem t3_0 : T3 0 := .inl rfl
theorem t3_1 : T3 1 := .inr (.inl rfl)
theorem notC (a : Int) (h : T3 a) (w : World) : Calls Try.prog 7 #[.int .i64 a] w fun e w' => e = .returned (.int .i64 (notT a)) ∧ Below w.heap.size w w' := by
  have := notAt a w; rwa [t3_tr h] at this
theorem andC (a b : Int) (h : T3 a) (g : T3 b) (w : World) : Calls Try.prog 9 #[.int .i64 a, .int .i64 b] w fun e w' => e = .returned (.int .i64 (andT a b)) ∧ Below w.heap.size w w' := by
  have := andAt a b w; rwa [t3_tr h, t3_tr g] at this
theorem orC (a b : Int) (h : T3 a) (g : T3 b) (w : World) : Calls Try.prog 11 #[.int .i64 a, .int .i64 b] w fun e w' => e = .returned (.int .i64 (orT a b)) ∧ Below w.heap.size w w' := by
  have := orAt a b w; rwa [t3_tr h, t3_tr g] at this
theorem xorC (a b : Int) (h : T3 a) (g : T3 b) (w : World) : Calls Try.prog 13 #[.int .i64 a, .int .i64 b] w fun e w' => e = .returned (.int .i64 (xorT a b)) ∧ Below w.heap.size w w' := by
  have := xorAt a b w; rwa [t3_tr h, t3_tr g] at this
theorem rnotC (a : Int) (h : T3 a) (w : World) : Calls Try.prog 8 #[.int .i64 a] w fun e w' => e = .returned (.int .i64 (notT a)) ∧ w' = w := by
  have := rnotAt a w; rwa [t3_tr h] at this
theorem randC (a b : Int) (h : T3 a) (g : T3 b) (w : World) : Calls Try.prog 10 #[.int .i64 a, .int .i64 b] w fun e w' => e = .returned (.int .i64 (andT a b)) ∧ w' = w := by
  have := randAt a b w; rwa [t3_tr h, t3_tr g] at this
theorem rorC (a b : Int) (h : T3 a) (g : T3 b) (w : World) : Calls Try.prog 12 #[.int .i64 a, .int .i64 b] w fun e w' => e = .returned (.int .i64 (orT a b)) ∧ w' = w := by
  have := rorAt a b w; rwa [t3_tr h, t3_tr g] at this
end Go.Proofs.Ytdnijfkiebpnpaa
