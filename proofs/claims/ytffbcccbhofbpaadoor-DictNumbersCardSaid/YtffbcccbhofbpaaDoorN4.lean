/- Values in memory: a value's own block, and values in one another. -/
import Derived.Test.YtffbcccbhofbpaaDoorN1
import Derived.Test.YtffbcccbhofbpaaDoorN3
namespace Go.Proofs.YtffbcccbhofbpaaDoor
open Go.RowKit

theorem info28 : (Tryd.prog.info? 89).map (·.size) = some 6 := by kernel_rfl

/-- A value's six cells in a block of its own. -/
def Six (w : World) (g : Nat) (k : Int) (b : Bool) (n : Int) (t x : ByteArray) (p : Option Addr) (len cap : Nat) : Prop :=
  w.heap[g]? = some (.cells #[.int .i64 k, .bool b, .int .i64 n, .string t, .string x, .slice p len cap] 89)

section
variable {w w' : World} {g e : Nat} {k : Int} {b : Bool} {n : Int} {t x : ByteArray} {p : Option Addr} {len cap : Nat}
theorem Six.below (h : Six w g k b n t x p len cap) (q : Below w.heap.size w w') : Six w' g k b n t x p len cap := (q.block g (lt_of_heap h)).trans h
theorem Six.only (h : Six w g k b n t x p len cap) (q : Only e w w') (d : g ≠ e) : Six w' g k b n t x p len cap := (q.block g (lt_of_heap h) d).trans h
theorem Six.alloc (h : Six w g k b n t x p len cap) (o : Obj) : Six (w.alloc o) g k b n t x p len cap := heap_old _ h
theorem Six.drewN (h : Six w g k b n t x p len cap) (m : Nat) : Six (w.drewN m) g k b n t x p len cap := h
theorem Six.lt (h : Six w g k b n t x p len cap) : g < w.heap.size := lt_of_heap h
theorem six_new (w : World) (e : w.heap.size = g) : Six (w.alloc (.cells #[.int .i64 k, .bool b, .int .i64 n, .string t, .string x, .slice p len cap] 89)) g k b n t x p len cap := heap_new _ _ e
theorem Six.c0 (h : Six w g k b n t x p len cap) : w.cell? ⟨g, 0, none⟩ = some (.int .i64 k) := cell_of h _ rfl
theorem Six.c1 (h : Six w g k b n t x p len cap) : w.cell? ⟨g, 1, none⟩ = some (.bool b) := cell_of h _ rfl
theorem Six.c2 (h : Six w g k b n t x p len cap) : w.cell? ⟨g, 2, none⟩ = some (.int .i64 n) := cell_of h _ rfl
theorem Six.c3 (h : Six w g k b n t x p len cap) : w.cell? ⟨g, 3, none⟩ = some (.string t) := cell_of h _ rfl
theorem Six.c4 (h : Six w g k b n t x p len cap) : w.cell? ⟨g, 4, none⟩ = some (.string x) := cell_of h _ rfl
theorem Six.c5 (h : Six w g k b n t x p len cap) : w.cell? ⟨g, 5, none⟩ = some (.slice p len cap) := cell_of h _ rfl
end

section
variable {w : World} {g : Nat} {k : Int} {b : Bool} {n : Int} {t x : ByteArray} {p : Option Addr} {len cap : Nat}
theorem Six.free (h : Six w g k b n t x p len cap) (i : Nat) : w.frozen? ⟨g, i, none⟩ = false := free_of h _
theorem Six.set1 (h : Six w g k b n t x p len cap) (v : Bool) : Six (w.setCell ⟨g, 1, none⟩ (.bool v)) g k v n t x p len cap := heap_set h 1 (.bool v)
theorem Six.set2 (h : Six w g k b n t x p len cap) (v : Int) : Six (w.setCell ⟨g, 2, none⟩ (.int .i64 v)) g k b v t x p len cap := heap_set h 2 (.int .i64 v)
theorem Six.set3 (h : Six w g k b n t x p len cap) (v : ByteArray) : Six (w.setCell ⟨g, 3, none⟩ (.string v)) g k b n v x p len cap := heap_set h 3 (.string v)
theorem Six.set4 (h : Six w g k b n t x p len cap) (v : ByteArray) : Six (w.setCell ⟨g, 4, none⟩ (.string v)) g k b n t v p len cap := heap_set h 4 (.string v)
theorem Six.set5 (h : Six w g k b n t x p len cap) (q : Option Addr) (l c : Nat) : Six (w.setCell ⟨g, 5, none⟩ (.slice q l c)) g k b n t x q l c := heap_set h 5 (.slice q l c)
theorem below_set {B e o : Nat} {y z : World} (h : Below B y z) (s : Option Nat) (v : Value) (hb : B ≤ e) (hs : B ≤ z.heap.size) : Below B y (z.setCell ⟨e, o, s⟩ v) :=
  below_only h ((Only.refl e z).setCell o s v) hb hs
end

theorem wpList_load6 {ops : Array Oper} {rest : List Oper} {o : Oper} {a : Act} {w : World} {Q : Exit → Act → World → Prop} {k : Int} {b : Bool} {n : Int} {t x : ByteArray} {p : Option Addr} {len cap : Nat} (y : Operand) (g : Nat) (hg : Six w g k b n t x p len cap)
    (hgd : o.guard = none) (ho : o.op = .load 89 y) (hx : a.eval y = .pointer (some ⟨g, 0, none⟩))
    (h : wpList Tryd.prog ops Q rest (a.put o.dst (.agg #[.int .i64 k, .bool b, .int .i64 n, .string t, .string x, .slice p len cap])) w) : wpList Tryd.prog ops Q (o :: rest) a w :=
  wpList_load_row hgd 89 y ho g hx 89 _ (0, 0) _ hg Tryd.underlying89 rfl info28 h
theorem wpList_store6 {ops : Array Oper} {rest : List Oper} {o : Oper} {a : Act} {w : World} {Q : Exit → Act → World → Prop} {k : Int} {b : Bool} {n : Int} {t x : ByteArray} {p : Option Addr} {len cap : Nat}
    {k' : Int} {b' : Bool} {n' : Int} {t' x' : ByteArray} {p' : Option Addr} {len' cap' : Nat} (y z : Operand) (g : Nat) (hg : Six w g k b n t x p len cap)
    (hgd : o.guard = none) (ho : o.op = .store 89 y z) (hx : a.eval y = .pointer (some ⟨g, 0, none⟩)) (hy : a.eval z = .agg #[.int .i64 k', .bool b', .int .i64 n', .string t', .string x', .slice p' len' cap'])
    (h : ∀ w', Only g w w' → Six w' g k' b' n' t' x' p' len' cap' → wpList Tryd.prog ops Q rest (a.put o.dst undef) w') : wpList Tryd.prog ops Q (o :: rest) a w :=
  wpList_plain hgd fun _ hK => by
    unfold Oper.wp execOp
    simp only [ho, hx, hy, Instr.storeAt, Instr.sureAddr, Sem.run_bind, Sem.run_pure, Result.andThen_ok, run_storeVar_row (P := Tryd.prog) w g 89 89 _ #[.int .i64 k', .bool b', .int .i64 n', .string t', .string x', .slice p' len' cap'] hg info28 rfl (by simp [Value.oneCell'])]
    exact hK _ _ (h _ (Only.setRow w _) (heap_setRow hg))
/-- The same behind a guard that is met. -/
theorem wpList_load6g {ops : Array Oper} {rest : List Oper} {o : Oper} {a : Act} {w : World} {Q : Exit → Act → World → Prop} {k : Int} {b : Bool} {n : Int} {t x : ByteArray} {p : Option Addr} {len cap : Nat} (y : Operand) (g : Nat) (hg : Six w g k b n t x p len cap)
    (hw : Region.wanted o (yielded ops a.tmps) = true) (ho : o.op = .load 89 y) (hx : a.eval y = .pointer (some ⟨g, 0, none⟩))
    (h : wpList Tryd.prog ops Q rest (a.put o.dst (.agg #[.int .i64 k, .bool b, .int .i64 n, .string t, .string x, .slice p len cap])) w) : wpList Tryd.prog ops Q (o :: rest) a w := by
  unfold wpList
  rw [if_pos hw]
  refine .inl ?_
  unfold Oper.wp execOp
  simp only [ho, hx, Instr.loadAt, Instr.sureAddr, Sem.run_bind, Sem.run_pure, Result.andThen_ok, run_loadVar_row (P := Tryd.prog) w g 89 89 _ (0, 0) _ hg Tryd.underlying89 rfl info28]
  exact h
end Go.Proofs.YtffbcccbhofbpaaDoor
