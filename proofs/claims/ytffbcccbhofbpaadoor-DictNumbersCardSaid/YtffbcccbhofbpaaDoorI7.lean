/- Two pairs that are the same. -/
import Derived.Test.YtffbcccbhofbpaaDoorI5
namespace Go.Proofs.YtffbcccbhofbpaaDoor
open Go.RowKit

theorem equal41 (z : Int) (w : World) : (Op.equalIn 10000 41 (.agg #[.int .i64 z, .int .i64 7]) (.agg #[.int .i64 z, .int .i64 7])).run Tryd.prog w = .ok true w := by
  have s3 : ∀ w, (sizeOf 3).run Tryd.prog w = .ok 1 w := fun w => by kernel_rfl
  have p0 : ∀ w, (part 3 #[.int .i64 z, .int .i64 7] 0).run Tryd.prog w = .ok (.int .i64 z) w := fun w => by kernel_rfl
  have p1 : ∀ w, (part 3 #[.int .i64 z, .int .i64 7] 1).run Tryd.prog w = .ok (.int .i64 7) w := fun w => by kernel_rfl
  have e0 : ∀ w, (Op.equalIn 9999 3 (.int .i64 z) (.int .i64 z)).run Tryd.prog w = .ok true w := fun w => by
    rw [run_equalIn_int w 9998 3 .i64 .i64 z z Tryd.underlying3]; simp
  have e1 : ∀ w, (Op.equalIn 9999 3 (.int .i64 7) (.int .i64 7)).run Tryd.prog w = .ok true w := fun w => by
    rw [run_equalIn_int w 9998 3 .i64 .i64 7 7 Tryd.underlying3]; simp
  rw [Op.equalIn]
  simp [run_underlying Tryd.underlying41, Std.Legacy.Range.forIn_eq_forIn_range', Std.Legacy.Range.size, List.range', s3, p0, p1, e0, e1, Result.andThen]
theorem guard41 : Tryd.prog.eqGuardType Tryd.prog.depth 41 = false := by kernel_rfl
theorem neq41 (z : Int) (w : World) : (binOp .neq 41 (.agg #[.int .i64 z, .int .i64 7]) (.agg #[.int .i64 z, .int .i64 7])).run Tryd.prog w = .ok (.bool false) w := by
  rw [run_neq_struct, equal41]; rfl
theorem guardAgg41 (x y : Operand) (xs ys : Array Value) (w : World) : (eqGuard .neq 41 x y (.agg xs) (.agg ys)).run Tryd.prog w = .ok () w := run_eqGuard_agg w .neq 41 x y xs ys guard41
end Go.Proofs.YtffbcccbhofbpaaDoor
