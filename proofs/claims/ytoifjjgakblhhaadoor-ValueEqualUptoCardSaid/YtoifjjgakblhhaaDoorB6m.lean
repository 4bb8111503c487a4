/- reckon, Add, Sub. -/
import Derived.Test.YtoifjjgakblhhaaDoorB5m
namespace Go.Proofs.YtoifjjgakblhhaaDoor
open Go.RowKit

theorem damt_sum {s t : List UInt8} (h : chk s = true) (h2 : chk t = true) : damt s + damt t < BASE ^ 16 := by
  have a := (chk_dec s h).2.1
  have b := (chk_dec t h2).2.1
  have e : BASE ^ 16 = 10 ^ 144 := base_pow 16
  rw [e]
  have : (10 : Nat) ^ 94 + 10 ^ 94 ≤ 10 ^ 144 := by decide
  omega

end Go.Proofs.YtoifjjgakblhhaaDoor
