/- minus. -/
import Derived.Test.YtoifjjgakblhhaaDoorA8m
import Derived.Test.YtoifjjgakblhhaaDoorRm
import Derived.Deep.RegionHeld3
import Derived.Deep.RegionWith
namespace Go.Proofs.YtoifjjgakblhhaaDoor
open Go.RowKit

theorem loadN {w : World} {g : Nat} {c : Array Value} {n : Bool} {f : Nat → Nat} (h : Lies w g c n f) : (Instr.loadAt 73 (.pointer (some ⟨g, 0, none⟩))).run Tryd.prog w = .ok (.agg c) w := by
  simp only [Instr.loadAt, Instr.sureAddr, Sem.run_bind, Sem.run_pure, Result.andThen_ok]
  exact run_loadVar_row (P := Tryd.prog) w g 73 73 c (0, 0) _ h.1 Tryd.underlying73 rfl (by rw [h.2.size]; exact info59)
theorem yieldsIf_loadN {ops : Array Oper} {S : World → Prop} {op : Oper} {a : Act} (hw : Region.wanted op (yielded ops a.tmps) = true) (x : Operand) (ho : op.op = .load 73 x)
    (g : Nat) (hx : a.eval x = .pointer (some ⟨g, 0, none⟩)) (c : Array Value) (n : Bool) (f : Nat → Nat) (hS : ∀ w, S w → Lies w g c n f) : YieldsIf Tryd.prog ops S op (.agg c) a :=
  .inl ⟨hw, fun w hw' => by
    unfold execOp
    simp only [ho, hx, Instr.loadAt, Instr.sureAddr, Sem.run_bind, Sem.run_pure, Result.andThen_ok, run_loadVar_row (P := Tryd.prog) w g 73 73 c (0, 0) _ (hS w hw').1 Tryd.underlying73 rfl (by rw [(hS w hw').2.size]; exact info59)]⟩
theorem storeN {w : World} {g : Nat} {c c' : Array Value} {n n' : Bool} {f f' : Nat → Nat} (h : Lies w g c n f) (k : IsNum c' n' f') : (Instr.storeAt 73 (.pointer (some ⟨g, 0, none⟩)) (.agg c')).run Tryd.prog w = .ok () (w.setRow g c') := by
  simp only [Instr.storeAt, Instr.sureAddr, Sem.run_bind, Sem.run_pure, Result.andThen_ok]
  exact run_storeVar_row (P := Tryd.prog) w g 73 73 c c' h.1 (by rw [k.size]; exact info59) (by rw [h.2.size, k.size]) k.one

theorem wp_storeN {op : Oper} {a : Act} {w : World} {K : Act → World → Prop} {Q : Exit → Act → World → Prop} (x y : Operand) (ho : op.op = .store 73 x y) (g : Nat) {c c' : Array Value} {n n' : Bool} {f f' : Nat → Nat}
    (hx : a.eval x = .pointer (some ⟨g, 0, none⟩)) (hy : a.eval y = .agg c') (hl : Lies w g c n f) (hn : IsNum c' n' f') (h : ∀ w', Only g w w' → Lies w' g c' n' f' → K (a.put op.dst undef) w') : op.wp Tryd.prog a w K Q := by
  unfold Oper.wp execOp
  simp only [ho, hx, hy, storeN hl hn, Sem.run_bind, Sem.run_pure, Result.andThen_ok]
  exact h _ (Only.setRow w c') ⟨heap_setRow hl.1, hn⟩

end Go.Proofs.YtoifjjgakblhhaaDoor
