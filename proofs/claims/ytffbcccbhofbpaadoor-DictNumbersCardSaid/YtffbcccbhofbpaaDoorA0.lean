/- Words on worlds, and how a number lies in memory. -/
import Derived.Test.YtffbcccbhofbpaaDoorProg
import Derived.Test.YtffbcccbhofbpaaDoorM
import Derived.WalkKit
import Derived.WalkSpells
import Derived.Outline
import Derived.LoopTactic
import Derived.Lib.Hide
import Derived.Below
import Derived.Deep.QuietTactic
import Derived.BigQuiet
import Derived.Laws.Rows
import Derived.Laws.Tables
import Derived.Deep.MidRow
import Derived.KernelRfl
namespace Go.Proofs.YtffbcccbhofbpaaDoor
open Go.RowKit

/-- The seventeen cells of a number. -/
structure IsNum (c : Array Value) (n : Bool) (f : Nat → Nat) : Prop where
  neg : c[0]? = some (.bool n)
  word : ∀ j, j < 16 → c[1 + j]? = some (.int .u32 (f j))
  size : c.size = 17
  lt : Words f

/-- But for block b the world w' is as w was, with new blocks. -/
structure Only (b : Nat) (w w' : World) : Prop where
  os : w'.os = w.os
  tape : w'.tape = w.tape
  output : w'.output = w.output
  size : w.heap.size ≤ w'.heap.size
  block : ∀ k, k < w.heap.size → k ≠ b → w'.heap[k]? = w.heap[k]?

theorem Only.refl (b : Nat) (w : World) : Only b w w := ⟨rfl, rfl, rfl, Nat.le_refl _, fun _ _ _ => rfl⟩
theorem Only.trans {b : Nat} {x y z : World} (h : Only b x y) (k : Only b y z) : Only b x z :=
  ⟨k.os.trans h.os, k.tape.trans h.tape, k.output.trans h.output, Nat.le_trans h.size k.size, fun i hi e => (k.block i (Nat.lt_of_lt_of_le hi h.size) e).trans (h.block i hi e)⟩
theorem Only.drewN {b : Nat} {x y : World} (h : Only b x y) (n : Nat) : Only b x (y.drewN n) := ⟨h.os, h.tape, h.output, h.size, h.block⟩
theorem Only.drew {b : Nat} {x y : World} (h : Only b x y) : Only b x y.drew := ⟨h.os, h.tape, h.output, h.size, h.block⟩
theorem Only.alloc {b : Nat} {x y : World} (h : Only b x y) (o : Obj) : Only b x (y.alloc o) :=
  h.trans ⟨rfl, rfl, rfl, by simp, fun k hk _ => Below.heap_alloc _ _ _ hk⟩
theorem Only.setCell {b : Nat} {x y : World} (h : Only b x y) (o : Nat) (s : Option Nat) (v : Value) : Only b x (y.setCell ⟨b, o, s⟩ v) :=
  h.trans ⟨rfl, rfl, rfl, by simp [World.setCell], fun _ _ e => Below.heap_setCell _ _ _ _ e⟩
theorem Only.of_below {b : Nat} {x y : World} (h : Below x.heap.size x y) : Only b x y := ⟨h.os, h.tape, h.output, h.size, fun k hk _ => h.block k hk⟩
/-- A block of the call's own was written. -/
theorem below_only {B b : Nat} {x y z : World} (h : Below B x y) (k : Only b y z) (hb : B ≤ b) (hs : B ≤ y.heap.size) : Below B x z :=
  h.trans ⟨k.os, k.tape, k.output, k.size, fun i hi => k.block i (by omega) (by omega)⟩
theorem below_drewN {B : Nat} {a w : World} (h : Below B a w) (n : Nat) : Below B a (w.drewN n) := ⟨h.os, h.tape, h.output, h.size, h.block⟩
theorem below_any {B : Nat} {x y z : World} (h : Below B x y) (k : Below y.heap.size y z) (hs : B ≤ y.heap.size) : Below B x z := h.trans (k.mono hs)

theorem cell_of {w : World} {b : Nat} {c : Array Value} {t : TypeId} (h : w.heap[b]? = some (.cells c t)) (o : Nat) {v : Value} (hv : c[o]? = some v) :
    w.cell? ⟨b, o, none⟩ = some v := by
  simp [World.cell?, h, hv]
theorem free_of {w : World} {b : Nat} {c : Array Value} {t : TypeId} (h : w.heap[b]? = some (.cells c t)) (o : Nat) : w.frozen? ⟨b, o, none⟩ = false := by
  simp [World.frozen?, h]
theorem heap_new (w : World) (o : Obj) {n : Nat} (h : w.heap.size = n) : (w.alloc o).heap[n]? = some o := by
  show (w.heap.push o)[n]? = _
  simp [← h]
theorem heap_old {w : World} (o : Obj) {n : Nat} {x : Obj} (h : w.heap[n]? = some x) : (w.alloc o).heap[n]? = some x := by
  rw [Below.heap_alloc _ _ _ (by have := Array.getElem?_eq_some_iff.1 h; obtain ⟨a, _⟩ := this; exact a)]; exact h
theorem heap_set {w : World} {b : Nat} {c : Array Value} {t : TypeId} (h : w.heap[b]? = some (.cells c t)) (o : Nat) (v : Value) :
    (w.setCell ⟨b, o, none⟩ v).heap[b]? = some (.cells (c.setIfInBounds o v) t) := by
  simp [World.setCell, Array.getElem?_modify, h]
theorem lt_of_heap {w : World} {b : Nat} {x : Obj} (h : w.heap[b]? = some x) : b < w.heap.size := by
  obtain ⟨a, _⟩ := Array.getElem?_eq_some_iff.1 h; exact a

theorem IsNum.set {c : Array Value} {n : Bool} {f : Nat → Nat} (h : IsNum c n f) {k v : Nat} (hk : k < 16) (hv : v < BASE) :
    IsNum (c.setIfInBounds (1 + k) (.int .u32 v)) n (upd f k v) := by
  refine ⟨?_, ?_, by simp [h.size], h.lt.upd hv⟩
  · rw [Array.getElem?_setIfInBounds_ne (by omega)]; exact h.neg
  · intro j hj
    by_cases e : j = k
    · subst e; rw [upd_same, Array.getElem?_setIfInBounds_self_of_lt (by rw [h.size]; omega)]
    · rw [upd_other _ _ e, Array.getElem?_setIfInBounds_ne (by omega)]; exact h.word j hj

/-- Cells that may lie in a block: one cell each. -/
theorem IsNum.one {c : Array Value} {n : Bool} {f : Nat → Nat} (h : IsNum c n f) : c.all (·.oneCell') = true := by
  rw [Array.all_eq_true]
  intro i hi
  rw [h.size] at hi
  cases i with
  | zero => have := h.neg; rw [Array.getElem?_eq_getElem (by rw [h.size]; omega)] at this; rw [Option.some.inj this]; rfl
  | succ i => have := h.word i (by omega); rw [Nat.add_comm] at this; rw [Array.getElem?_eq_getElem (by rw [h.size]; omega)] at this; rw [Option.some.inj this]; rfl

theorem heap_setRow {w : World} {g : Nat} {c c' : Array Value} {t : TypeId} (h : w.heap[g]? = some (.cells c t)) : (w.setRow g c').heap[g]? = some (.cells c' t) := by
  simp [World.setRow, Array.getElem?_modify, h]
theorem Only.setRow {b : Nat} (w : World) (c : Array Value) : Only b w (w.setRow b c) :=
  ⟨rfl, rfl, rfl, by simp [World.setRow], fun k _ e => by simp only [World.setRow, Array.getElem?_modify]; rw [if_neg (by omega)]⟩

def zero59 : Array Value := #[.bool false, .int .u32 0, .int .u32 0, .int .u32 0, .int .u32 0, .int .u32 0, .int .u32 0, .int .u32 0, .int .u32 0, .int .u32 0, .int .u32 0, .int .u32 0, .int .u32 0, .int .u32 0, .int .u32 0, .int .u32 0, .int .u32 0]
theorem isNum_zero : IsNum zero59 false (fun _ => 0) := by
  refine ⟨rfl, fun j hj => ?_, rfl, fun j _ => by decide⟩
  match j, hj with
  | 0, _ => rfl
  | 1, _ => rfl
  | 2, _ => rfl
  | 3, _ => rfl
  | 4, _ => rfl
  | 5, _ => rfl
  | 6, _ => rfl
  | 7, _ => rfl
  | 8, _ => rfl
  | 9, _ => rfl
  | 10, _ => rfl
  | 11, _ => rfl
  | 12, _ => rfl
  | 13, _ => rfl
  | 14, _ => rfl
  | 15, _ => rfl
  | k + 16, h => exact absurd h (by omega)
end Go.Proofs.YtffbcccbhofbpaaDoor
