/- Words on worlds, and how a number lies in memory. -/
import Derived.Test.YtoifjjgakblhhaaGreatDoorProg
import Derived.Test.YtoifjjgakblhhaaGreatDoorGa
import Derived.WalkKit
import Derived.WalkSpells
import Derived.Outline
import Derived.LoopTactic
import Derived.Lib.Hide
import Derived.Below
import Derived.Deep.QuietTactic
import Derived.BigQuiet
import Derived.Laws.Rows
import Derived.Laws.Tables
import Derived.Deep.MidRow
import Derived.KernelRfl
namespace Go.Proofs.YtoifjjgakblhhaaGreatDoor
open Go.RowKit

/-- The seventeen cells of a number. -/
structure IsNum (c : Array Value) (n : Bool) (f : Nat → Nat) : Prop where
  neg : c[0]? = some (.bool n)
  word : ∀ j, j < 16 → c[1 + j]? = some (.int .u32 (f j))
  size : c.size = 17
  lt : Words f

/-- But for block b the world w' is as w was, with new blocks. -/
structure Only (b : Nat) (w w' : World) : Prop where
  os : w'.os = w.os
  tape : w'.tape = w.tape
  output : w'.output = w.output
  size : w.heap.size ≤ w'.heap.size
  block : ∀ k, k < w.heap.size → k ≠ b → w'.heap[k]? = w.heap[k]?

theorem Only.refl (b : Nat) (w : World) : Only b w w := ⟨rfl, rfl, rfl, Nat.le_refl _, fun _ _ _ => rfl⟩
theorem Only.trans {b : Nat} {x y z : World} (h : Only b x y) (k : Only b y z) : Only b x z :=
  ⟨k.os.trans h.os, k.tape.trans h.tape, k.output.trans h.output, Nat.le_trans h.size k.size, fun i hi e => (k.block i (Nat.lt_of_lt_of_le hi h.size) e).trans (h.block i hi e)⟩
theorem Only.drewN {b : Nat} {x y : World} (h : Only b x y) (n : Nat) : Only b x (y.drewN n) := ⟨h.os, h.tape, h.output, h.size, h.block⟩
theorem Only.drew {b : Nat} {x y : World} (h : Only b x y) : Only b x y.drew := ⟨h.os, h.tape, h.output, h.size, h.block⟩
theorem Only.alloc {b : Nat} {x y : World} (h : Only b x y) (o : Obj) : Only b x (y.alloc o) :=
  h.trans ⟨rfl, rfl, rfl, by simp, fun k hk _ => Below.heap_alloc _ _ _ hk⟩
theorem Only.setCell {b : Nat} {x y : World} (h : Only b x y) (o : Nat) (s : Option Nat) (v : Value) : Only b x (y.setCell ⟨b, o, s⟩ v) :=
  h.trans ⟨rfl, rfl, rfl, by simp [World.setCell], fun _ _ e => Below.heap_setCell _ _ _ _ e⟩
theorem Only.of_below {b : Nat} {x y : World} (h : Below x.heap.size x y) : Only b x y := ⟨h.os, h.tape, h.output, h.size, fun k hk _ => h.block k hk⟩
/-- A block of the call's own was written. -/
theorem below_only {B b : Nat} {x y z : World} (h : Below B x y) (k : Only b y z) (hb : B ≤ b) (hs : B ≤ y.heap.size) : Below B x z :=
  h.trans ⟨k.os, k.tape, k.output, k.size, fun i hi => k.block i (by omega) (by omega)⟩
theorem below_drewN {B : Nat} {a w : World} (h : Below B a w) (n : Nat) : Below B a (w.drewN n) := ⟨h.os, h.tape, h.output, h.size, h.block⟩
theorem below_any {B : Nat} {x y z : World} (h : Below B x y) (k : Below y.heap.size y z) (hs : B ≤ y.heap.size) : Below B x z := h.trans (k.mono hs)

theorem cell_of {w : World} {b : Nat} {c : Array Value} {t : TypeId} (h : w.heap[b]? = some (.cells c t)) (o : Nat) {v : Value} (hv : c[o]? = some v) :
    w.cell? ⟨b, o, none⟩ = some v := by
  simp [World.cell?, h, hv]
theorem free_of {w : World} {b : Nat} {c : Array Value} {t : TypeId} (h : w.heap[b]? = some (.cells c t)) (o : Nat) : w.frozen? ⟨b, o, none⟩ = false := by
  simp [World.frozen?, h]
theorem heap_new (w : World) (o : Obj) {n : Nat} (h : w.heap.size = n) : (w.alloc o).heap[n]? = some o := by
  show (w.heap.push o)[n]? = _
  simp [← h]
theorem heap_old {w : World} (o : Obj) {n : Nat} {x : Obj} (h : w.heap[n]? = some x) : (w.alloc o).heap[n]? = some x := by
  rw [Below.heap_alloc _ _ _ (by have := Array.getElem?_eq_some_iff.1 h; obtain ⟨a, _⟩ := this; exact a)]; exact h
theorem heap_set {w : World} {b : Nat} {c : Array Value} {t : TypeId} (h : w.heap[b]? = some (.cells c t)) (o : Nat) (v : Value) :
    (w.setCell ⟨b, o, none⟩ v).heap[b]? = some (.cells (c.setIfInBounds o v) t) := by
  simp [World.setCell, Array.getElem?_modify, h]
theorem lt_of_heap {w : World} {b : Nat} {x : Obj} (h : w.heap[b]? = some x) : b < w.heap.size := by
  obtain ⟨a, _⟩ := Array.getElem?_eq_some_iff.1 h; exact a

theorem IsNum.set {c : Array Value} {n : Bool} {f : Nat → Nat} (h : IsNum c n f) {k v : Nat} (hk : k < 16) (hv : v < BASE) :
    IsNum (c.setIfInBounds (1 + k) (.int .u32 v)) n (upd f k v) := by
  refine ⟨?_, ?_, by simp [h.size], h.lt.upd hv⟩
  · rw [Array.getElem?_setIfInBounds_ne (by omega)]; exact h.neg
  · intro j hj
    by_cases e : j = k
    · subst e; rw [upd_same, Array.getElem?_setIfInBounds_self_of_lt (by rw [h.size]; omega)]
    · rw [upd_other _ _ e, Array.getElem?_setIfInBounds_ne (by omega)]; exact h.word j hj

theorem info59 : (Tryz.prog.info? 136).map (·.size) = some 17 := by kernel_rfl

/-- Cells that may lie in a block: one cell each. -/
theorem IsNum.one {c : Array Value} {n : Bool} {f : Nat → Nat} (h : IsNum c n f) : c.all (·.oneCell') = true := by
  rw [Array.all_eq_true]
  intro i hi
  rw [h.size] at hi
  cases i with
  | zero => have := h.neg; rw [Array.getElem?_eq_getElem (by rw [h.size]; omega)] at this; rw [Option.some.inj this]; rfl
  | succ i => have := h.word i (by omega); rw [Nat.add_comm] at this; rw [Array.getElem?_eq_getElem (by rw [h.size]; omega)] at this; rw [Option.some.inj this]; rfl

theorem heap_setRow {w : World} {g : Nat} {c c' : Array Value} {t : TypeId} (h : w.heap[g]? = some (.cells c t)) : (w.setRow g c').heap[g]? = some (.cells c' t) := by
  simp [World.setRow, Array.getElem?_modify, h]
theorem Only.setRow {b : Nat} (w : World) (c : Array Value) : Only b w (w.setRow b c) :=
  ⟨rfl, rfl, rfl, by simp [World.setRow], fun k _ e => by simp only [World.setRow, Array.getElem?_modify]; rw [if_neg (by omega)]⟩

/-- A whole number is read. -/
theorem wpList_load_num {ops : Array Oper} {rest : List Oper} {o : Oper} {a : Act} {w : World} {Q : Exit → Act → World → Prop} (g : Nat) (c : Array Value) (hg : w.heap[g]? = some (.cells c 136)) (hs : c.size = 17)
    (x : Operand) (hgd : o.guard = none) (ho : o.op = .load 136 x) (hx : a.eval x = .pointer (some ⟨g, 0, none⟩))
    (h : wpList Tryz.prog ops Q rest (a.put o.dst (.agg c)) w) : wpList Tryz.prog ops Q (o :: rest) a w :=
  wpList_load_row hgd 136 x ho g hx 136 c (0, 0) _ hg Tryz.underlying136 rfl (by rw [hs]; exact info59) h

/-- A whole number is written. -/
theorem wpList_store_num {ops : Array Oper} {rest : List Oper} {o : Oper} {a : Act} {w : World} {Q : Exit → Act → World → Prop} (g : Nat) (c c' : Array Value) (hg : w.heap[g]? = some (.cells c 136)) (hs : c.size = 17) (hs' : c'.size = 17) (h1 : c'.all (·.oneCell') = true)
    (x y : Operand) (hgd : o.guard = none) (ho : o.op = .store 136 x y) (hx : a.eval x = .pointer (some ⟨g, 0, none⟩)) (hy : a.eval y = .agg c')
    (h : ∀ w', Only g w w' → w'.heap[g]? = some (.cells c' 136) → wpList Tryz.prog ops Q rest (a.put o.dst undef) w') : wpList Tryz.prog ops Q (o :: rest) a w :=
  wpList_plain hgd fun _ hK => by
    unfold Oper.wp execOp
    simp only [ho, hx, hy, Instr.storeAt, Instr.sureAddr, Sem.run_bind, Sem.run_pure, Result.andThen_ok, run_storeVar_row (P := Tryz.prog) w g 136 136 c c' hg (by rw [hs']; exact info59) (by rw [hs, hs']) h1]
    exact hK _ _ (h _ (Only.setRow w c') (heap_setRow hg))

/-- A number lies in a block. -/
def Lies (w : World) (g : Nat) (c : Array Value) (n : Bool) (f : Nat → Nat) : Prop := w.heap[g]? = some (.cells c 136) ∧ IsNum c n f
theorem Lies.heap {w : World} {g : Nat} {c : Array Value} {n : Bool} {f : Nat → Nat} (h : Lies w g c n f) : w.heap[g]? = some (.cells c 136) := h.1
theorem Lies.num {w : World} {g : Nat} {c : Array Value} {n : Bool} {f : Nat → Nat} (h : Lies w g c n f) : IsNum c n f := h.2
theorem lies_mk {w : World} {g : Nat} {c : Array Value} {n : Bool} {f : Nat → Nat} (h : w.heap[g]? = some (.cells c 136)) (hn : IsNum c n f) : Lies w g c n f := ⟨h, hn⟩
theorem Lies.below {w w' : World} {g : Nat} {c : Array Value} {n : Bool} {f : Nat → Nat} (h : Lies w g c n f) (k : Below w.heap.size w w') : Lies w' g c n f :=
  ⟨(k.block g (lt_of_heap h.1)).trans h.1, h.2⟩
theorem Lies.only {w w' : World} {g b : Nat} {c : Array Value} {n : Bool} {f : Nat → Nat} (h : Lies w g c n f) (k : Only b w w') (e : g ≠ b) : Lies w' g c n f :=
  ⟨(k.block g (lt_of_heap h.1) e).trans h.1, h.2⟩
theorem Lies.alloc {w : World} {g : Nat} {c : Array Value} {n : Bool} {f : Nat → Nat} (h : Lies w g c n f) (o : Obj) : Lies (w.alloc o) g c n f := ⟨heap_old _ h.1, h.2⟩
theorem Lies.drew {w : World} {g : Nat} {c : Array Value} {n : Bool} {f : Nat → Nat} (h : Lies w g c n f) : Lies w.drew g c n f := h
theorem Lies.cell0 {w : World} {g : Nat} {c : Array Value} {n : Bool} {f : Nat → Nat} (h : Lies w g c n f) : w.cell? ⟨g, 0, none⟩ = some (.bool n) := cell_of h.1 _ h.2.neg
theorem Lies.lt {w : World} {g : Nat} {c : Array Value} {n : Bool} {f : Nat → Nat} (h : Lies w g c n f) : g < w.heap.size := lt_of_heap h.1
theorem lies_new (w : World) {g : Nat} {c : Array Value} {n : Bool} {f : Nat → Nat} (h : IsNum c n f) (e : w.heap.size = g) : Lies (w.alloc (.cells c 136)) g c n f := ⟨heap_new _ _ e, h⟩

theorem wpList_loadN {ops : Array Oper} {rest : List Oper} {o : Oper} {a : Act} {w : World} {Q : Exit → Act → World → Prop} {c : Array Value} {n : Bool} {f : Nat → Nat} (x : Operand) (g : Nat) (hg : Lies w g c n f)
    (hgd : o.guard = none) (ho : o.op = .load 136 x) (hx : a.eval x = .pointer (some ⟨g, 0, none⟩))
    (h : wpList Tryz.prog ops Q rest (a.put o.dst (.agg c)) w) : wpList Tryz.prog ops Q (o :: rest) a w :=
  wpList_load_num g c hg.1 hg.2.size x hgd ho hx h
theorem wpList_storeN {ops : Array Oper} {rest : List Oper} {o : Oper} {a : Act} {w : World} {Q : Exit → Act → World → Prop} {c c' : Array Value} {n n' : Bool} {f f' : Nat → Nat} (x y : Operand) (g : Nat) (hg : Lies w g c n f) (hn : IsNum c' n' f')
    (hgd : o.guard = none) (ho : o.op = .store 136 x y) (hx : a.eval x = .pointer (some ⟨g, 0, none⟩)) (hy : a.eval y = .agg c')
    (h : ∀ w', Only g w w' → Lies w' g c' n' f' → wpList Tryz.prog ops Q rest (a.put o.dst undef) w') : wpList Tryz.prog ops Q (o :: rest) a w :=
  wpList_store_num g c c' hg.1 hg.2.size hn.size hn.one x y hgd ho hx hy fun w' k hh => h w' k ⟨hh, hn⟩
theorem results_num {fn : Func} {p : Tmp} (h : fn.results = #[.cell p 136]) (tmps : Array Value) {w : World} {g : Nat} {c : Array Value} {n : Bool} {f : Nat → Nat}
    (hp : tmps.getD p undef = .pointer (some ⟨g, 0, none⟩)) (hg : Lies w g c n f) : (results fn tmps).run Tryz.prog w = .ok (.agg c) w :=
  results_cell_row h tmps w g 136 c (0, 0) _ hp hg.1 Tryz.underlying136 rfl (by rw [hg.2.size]; exact info59)

def zero59 : Array Value := #[.bool false, .int .u32 0, .int .u32 0, .int .u32 0, .int .u32 0, .int .u32 0, .int .u32 0, .int .u32 0, .int .u32 0, .int .u32 0, .int .u32 0, .int .u32 0, .int .u32 0, .int .u32 0, .int .u32 0, .int .u32 0, .int .u32 0]
theorem isNum_zero : IsNum zero59 false (fun _ => 0) := by
  refine ⟨rfl, fun j hj => ?_, rfl, fun j _ => by decide⟩
  match j, hj with
  | 0, _ => rfl
  | 1, _ => rfl
  | 2, _ => rfl
  | 3, _ => rfl
  | 4, _ => rfl
  | 5, _ => rfl
  | 6, _ => rfl
  | 7, _ => rfl
  | 8, _ => rfl
  | 9, _ => rfl
  | 10, _ => rfl
  | 11, _ => rfl
  | 12, _ => rfl
  | 13, _ => rfl
  | 14, _ => rfl
  | 15, _ => rfl
  | k + 16, h => exact absurd h (by omega)
theorem lies_zero (w : World) {g : Nat} (e : w.heap.size = g) : Lies (w.alloc (.cells #[.bool false, .int .u32 0, .int .u32 0, .int .u32 0, .int .u32 0, .int .u32 0, .int .u32 0, .int .u32 0, .int .u32 0, .int .u32 0, .int .u32 0, .int .u32 0, .int .u32 0, .int .u32 0, .int .u32 0, .int .u32 0, .int .u32 0] 136)) g zero59 false (fun _ => 0) :=
  ⟨heap_new _ _ e, isNum_zero⟩

end Go.Proofs.YtoifjjgakblhhaaGreatDoor
