/- Texts of one kind, one behind the other: each says ahead of itself what it shows. -/
import Derived.Test.YtoifjjgakblhhaaGreatDoorHaa
import Derived.Shelf.Strings.Trim
import Derived.Shelf.Small.Utf8
import Derived.Shelf.Small.Strs
import Derived.Shelf.Small.Wraps
import Derived.Shelf.Strconv.Itoa0
import Derived.Shelf.Strconv.Itoa1
import Derived.Shelf.LaysM
import Derived.Shelf.Strconv.Itoa2
import Derived.Shelf.Strconv.Itoa3
import Derived.Shelf.Strconv.Itoa4
import Derived.Shelf.Strconv.ParseIntEmpty
import Derived.Shelf.Strconv.Clone
import Derived.Shelf.Strconv.SyntaxError
import Derived.Shelf.LaysC
import Derived.Shelf.Strconv.ToError
import Derived.Shelf.Strconv.Lower
import Derived.Shelf.Strconv.ParseUint10
import Derived.Shelf.Strconv.ParseUint10Empty
import Derived.Shelf.Strconv.ParseUint10Any
import Derived.Shelf.Strconv.ParseInt10
import Derived.Shelf.Strconv.RangeError
import Derived.Shelf.Strconv.ToErrorRange
import Derived.Shelf.Strconv.ParseUintEmpty
import Derived.Shelf.Strconv.ParseUint10b64
import Derived.Shelf.Strconv.ParseUint10b32
import Derived.Shelf.Strconv.ParseUint10b16
import Derived.Shelf.Strconv.ParseUint10b8
import Derived.Shelf.Strconv.ParseUint10At
import Derived.Shelf.Strconv.ParseInt10At64
import Derived.Shelf.Strconv.ParseInt10At32
import Derived.Shelf.Strconv.ParseInt10At16
import Derived.Shelf.Strconv.ParseInt10At8
import Derived.Shelf.Strconv.ParseInt10All
import Derived.Shelf.Strconv.ParseIntPublic10
import Derived.Shelf.Strconv.ErrVarParseInt
import Derived.Shelf.Strings.Search1
import Derived.Shelf.Strings.Search2
import Derived.Shelf.Strings.Cut
import Derived.Shelf.Strings.Shaped
import Derived.Shelf.Strings.Prefix
import Derived.Shelf.Strings.Runes
import Derived.Shelf.Strings.AsciiSet
import Derived.Shelf.Unicode.DecodeSlow
import Derived.Test.YtoifjjgakblhhaaGreatDoorProg
/- Values in memory: a value's own block, and values in one another. -/
namespace Go.Proofs.YtoifjjgakblhhaaGreatDoor
open Go.RowKit

theorem info28 : (Tryz.prog.info? 28).map (·.size) = some 6 := by kernel_rfl

/-- A value's six cells in a block of its own. -/
def Six (w : World) (g : Nat) (k : Int) (b : Bool) (n : Int) (t x : ByteArray) (p : Option Addr) (len cap : Nat) : Prop :=
  w.heap[g]? = some (.cells #[.int .i64 k, .bool b, .int .i64 n, .string t, .string x, .slice p len cap] 28)

section
variable {w w' : World} {g e : Nat} {k : Int} {b : Bool} {n : Int} {t x : ByteArray} {p : Option Addr} {len cap : Nat}
theorem Six.below (h : Six w g k b n t x p len cap) (q : Below w.heap.size w w') : Six w' g k b n t x p len cap := (q.block g (lt_of_heap h)).trans h
theorem Six.only (h : Six w g k b n t x p len cap) (q : Only e w w') (d : g ≠ e) : Six w' g k b n t x p len cap := (q.block g (lt_of_heap h) d).trans h
theorem Six.alloc (h : Six w g k b n t x p len cap) (o : Obj) : Six (w.alloc o) g k b n t x p len cap := heap_old _ h
theorem Six.drewN (h : Six w g k b n t x p len cap) (m : Nat) : Six (w.drewN m) g k b n t x p len cap := h
theorem Six.lt (h : Six w g k b n t x p len cap) : g < w.heap.size := lt_of_heap h
theorem six_new (w : World) (e : w.heap.size = g) : Six (w.alloc (.cells #[.int .i64 k, .bool b, .int .i64 n, .string t, .string x, .slice p len cap] 28)) g k b n t x p len cap := heap_new _ _ e
theorem Six.c0 (h : Six w g k b n t x p len cap) : w.cell? ⟨g, 0, none⟩ = some (.int .i64 k) := cell_of h _ rfl
theorem Six.c1 (h : Six w g k b n t x p len cap) : w.cell? ⟨g, 1, none⟩ = some (.bool b) := cell_of h _ rfl
theorem Six.c2 (h : Six w g k b n t x p len cap) : w.cell? ⟨g, 2, none⟩ = some (.int .i64 n) := cell_of h _ rfl
theorem Six.c3 (h : Six w g k b n t x p len cap) : w.cell? ⟨g, 3, none⟩ = some (.string t) := cell_of h _ rfl
theorem Six.c4 (h : Six w g k b n t x p len cap) : w.cell? ⟨g, 4, none⟩ = some (.string x) := cell_of h _ rfl
theorem Six.c5 (h : Six w g k b n t x p len cap) : w.cell? ⟨g, 5, none⟩ = some (.slice p len cap) := cell_of h _ rfl
end

section
variable {w : World} {g : Nat} {k : Int} {b : Bool} {n : Int} {t x : ByteArray} {p : Option Addr} {len cap : Nat}
theorem Six.free (h : Six w g k b n t x p len cap) (i : Nat) : w.frozen? ⟨g, i, none⟩ = false := free_of h _
theorem Six.set1 (h : Six w g k b n t x p len cap) (v : Bool) : Six (w.setCell ⟨g, 1, none⟩ (.bool v)) g k v n t x p len cap := heap_set h 1 (.bool v)
theorem Six.set2 (h : Six w g k b n t x p len cap) (v : Int) : Six (w.setCell ⟨g, 2, none⟩ (.int .i64 v)) g k b v t x p len cap := heap_set h 2 (.int .i64 v)
theorem Six.set3 (h : Six w g k b n t x p len cap) (v : ByteArray) : Six (w.setCell ⟨g, 3, none⟩ (.string v)) g k b n v x p len cap := heap_set h 3 (.string v)
theorem Six.set4 (h : Six w g k b n t x p len cap) (v : ByteArray) : Six (w.setCell ⟨g, 4, none⟩ (.string v)) g k b n t v p len cap := heap_set h 4 (.string v)
theorem Six.set5 (h : Six w g k b n t x p len cap) (q : Option Addr) (l c : Nat) : Six (w.setCell ⟨g, 5, none⟩ (.slice q l c)) g k b n t x q l c := heap_set h 5 (.slice q l c)
theorem below_set {B e o : Nat} {y z : World} (h : Below B y z) (s : Option Nat) (v : Value) (hb : B ≤ e) (hs : B ≤ z.heap.size) : Below B y (z.setCell ⟨e, o, s⟩ v) :=
  below_only h ((Only.refl e z).setCell o s v) hb hs
end

theorem wpList_load6 {ops : Array Oper} {rest : List Oper} {o : Oper} {a : Act} {w : World} {Q : Exit → Act → World → Prop} {k : Int} {b : Bool} {n : Int} {t x : ByteArray} {p : Option Addr} {len cap : Nat} (y : Operand) (g : Nat) (hg : Six w g k b n t x p len cap)
    (hgd : o.guard = none) (ho : o.op = .load 28 y) (hx : a.eval y = .pointer (some ⟨g, 0, none⟩))
    (h : wpList Tryz.prog ops Q rest (a.put o.dst (.agg #[.int .i64 k, .bool b, .int .i64 n, .string t, .string x, .slice p len cap])) w) : wpList Tryz.prog ops Q (o :: rest) a w :=
  wpList_load_row hgd 28 y ho g hx 28 _ (0, 0) _ hg Tryz.underlying28 rfl info28 h
theorem wpList_store6 {ops : Array Oper} {rest : List Oper} {o : Oper} {a : Act} {w : World} {Q : Exit → Act → World → Prop} {k : Int} {b : Bool} {n : Int} {t x : ByteArray} {p : Option Addr} {len cap : Nat}
    {k' : Int} {b' : Bool} {n' : Int} {t' x' : ByteArray} {p' : Option Addr} {len' cap' : Nat} (y z : Operand) (g : Nat) (hg : Six w g k b n t x p len cap)
    (hgd : o.guard = none) (ho : o.op = .store 28 y z) (hx : a.eval y = .pointer (some ⟨g, 0, none⟩)) (hy : a.eval z = .agg #[.int .i64 k', .bool b', .int .i64 n', .string t', .string x', .slice p' len' cap'])
    (h : ∀ w', Only g w w' → Six w' g k' b' n' t' x' p' len' cap' → wpList Tryz.prog ops Q rest (a.put o.dst undef) w') : wpList Tryz.prog ops Q (o :: rest) a w :=
  wpList_plain hgd fun _ hK => by
    unfold Oper.wp execOp
    simp only [ho, hx, hy, Instr.storeAt, Instr.sureAddr, Sem.run_bind, Sem.run_pure, Result.andThen_ok, run_storeVar_row (P := Tryz.prog) w g 28 28 _ #[.int .i64 k', .bool b', .int .i64 n', .string t', .string x', .slice p' len' cap'] hg info28 rfl (by simp [Value.oneCell'])]
    exact hK _ _ (h _ (Only.setRow w _) (heap_setRow hg))
/-- The same behind a guard that is met. -/
theorem wpList_load6g {ops : Array Oper} {rest : List Oper} {o : Oper} {a : Act} {w : World} {Q : Exit → Act → World → Prop} {k : Int} {b : Bool} {n : Int} {t x : ByteArray} {p : Option Addr} {len cap : Nat} (y : Operand) (g : Nat) (hg : Six w g k b n t x p len cap)
    (hw : Region.wanted o (yielded ops a.tmps) = true) (ho : o.op = .load 28 y) (hx : a.eval y = .pointer (some ⟨g, 0, none⟩))
    (h : wpList Tryz.prog ops Q rest (a.put o.dst (.agg #[.int .i64 k, .bool b, .int .i64 n, .string t, .string x, .slice p len cap])) w) : wpList Tryz.prog ops Q (o :: rest) a w := by
  unfold wpList
  rw [if_pos hw]
  refine .inl ?_
  unfold Oper.wp execOp
  simp only [ho, hx, Instr.loadAt, Instr.sureAddr, Sem.run_bind, Sem.run_pure, Result.andThen_ok, run_loadVar_row (P := Tryz.prog) w g 28 28 _ (0, 0) _ hg Tryz.underlying28 rfl info28]
  exact h
end Go.Proofs.YtoifjjgakblhhaaGreatDoor

/- What a type switch over the small types finds. -/
namespace Go.Proofs.YtoifjjgakblhhaaGreatDoor
open Go.RowKit

theorem ta80_80 (w : World) : (Instr.typeAssert (.iface 80 (.agg #[])) 20 80 true).run Tryz.prog w = .ok (.tuple #[.agg #[], .bool true]) w := by kernel_rfl
theorem ta80_81 (w : World) : (Instr.typeAssert (.iface 80 (.agg #[])) 20 81 true).run Tryz.prog w = .ok (.tuple #[.agg #[], .bool false]) w := by kernel_rfl
theorem ta80_82 (w : World) : (Instr.typeAssert (.iface 80 (.agg #[])) 20 82 true).run Tryz.prog w = .ok (.tuple #[.agg #[], .bool false]) w := by kernel_rfl
theorem ta80_83 (w : World) : (Instr.typeAssert (.iface 80 (.agg #[])) 20 83 true).run Tryz.prog w = .ok (.tuple #[.agg #[], .bool false]) w := by kernel_rfl
theorem ta80_84 (w : World) : (Instr.typeAssert (.iface 80 (.agg #[])) 20 84 true).run Tryz.prog w = .ok (.tuple #[.agg #[], .bool false]) w := by kernel_rfl
theorem ta80_85 (w : World) : (Instr.typeAssert (.iface 80 (.agg #[])) 20 85 true).run Tryz.prog w = .ok (.tuple #[.agg #[], .bool false]) w := by kernel_rfl
theorem ta80_87 (w : World) : (Instr.typeAssert (.iface 80 (.agg #[])) 20 87 true).run Tryz.prog w = .ok (.tuple #[.agg #[], .bool false]) w := by kernel_rfl
theorem ta80_88 (w : World) : (Instr.typeAssert (.iface 80 (.agg #[])) 20 88 true).run Tryz.prog w = .ok (.tuple #[.agg #[], .bool false]) w := by kernel_rfl
theorem ta80_89 (w : World) : (Instr.typeAssert (.iface 80 (.agg #[])) 20 89 true).run Tryz.prog w = .ok (.tuple #[.agg #[], .bool false]) w := by kernel_rfl
theorem ta80_90 (w : World) : (Instr.typeAssert (.iface 80 (.agg #[])) 20 90 true).run Tryz.prog w = .ok (.tuple #[.agg #[], .bool false]) w := by kernel_rfl
theorem ta80_91 (w : World) : (Instr.typeAssert (.iface 80 (.agg #[])) 20 91 true).run Tryz.prog w = .ok (.tuple #[.agg #[], .bool false]) w := by kernel_rfl
theorem ta81_80 (w : World) : (Instr.typeAssert (.iface 81 (.agg #[])) 20 80 true).run Tryz.prog w = .ok (.tuple #[.agg #[], .bool false]) w := by kernel_rfl
theorem ta81_81 (w : World) : (Instr.typeAssert (.iface 81 (.agg #[])) 20 81 true).run Tryz.prog w = .ok (.tuple #[.agg #[], .bool true]) w := by kernel_rfl
theorem ta81_82 (w : World) : (Instr.typeAssert (.iface 81 (.agg #[])) 20 82 true).run Tryz.prog w = .ok (.tuple #[.agg #[], .bool false]) w := by kernel_rfl
theorem ta81_83 (w : World) : (Instr.typeAssert (.iface 81 (.agg #[])) 20 83 true).run Tryz.prog w = .ok (.tuple #[.agg #[], .bool false]) w := by kernel_rfl
theorem ta81_84 (w : World) : (Instr.typeAssert (.iface 81 (.agg #[])) 20 84 true).run Tryz.prog w = .ok (.tuple #[.agg #[], .bool false]) w := by kernel_rfl
theorem ta81_85 (w : World) : (Instr.typeAssert (.iface 81 (.agg #[])) 20 85 true).run Tryz.prog w = .ok (.tuple #[.agg #[], .bool false]) w := by kernel_rfl
theorem ta81_87 (w : World) : (Instr.typeAssert (.iface 81 (.agg #[])) 20 87 true).run Tryz.prog w = .ok (.tuple #[.agg #[], .bool false]) w := by kernel_rfl
theorem ta81_88 (w : World) : (Instr.typeAssert (.iface 81 (.agg #[])) 20 88 true).run Tryz.prog w = .ok (.tuple #[.agg #[], .bool false]) w := by kernel_rfl
theorem ta81_89 (w : World) : (Instr.typeAssert (.iface 81 (.agg #[])) 20 89 true).run Tryz.prog w = .ok (.tuple #[.agg #[], .bool false]) w := by kernel_rfl
theorem ta81_90 (w : World) : (Instr.typeAssert (.iface 81 (.agg #[])) 20 90 true).run Tryz.prog w = .ok (.tuple #[.agg #[], .bool false]) w := by kernel_rfl
theorem ta81_91 (w : World) : (Instr.typeAssert (.iface 81 (.agg #[])) 20 91 true).run Tryz.prog w = .ok (.tuple #[.agg #[], .bool false]) w := by kernel_rfl
theorem ta82_80 (w : World) : (Instr.typeAssert (.iface 82 (.agg #[])) 20 80 true).run Tryz.prog w = .ok (.tuple #[.agg #[], .bool false]) w := by kernel_rfl
theorem ta82_81 (w : World) : (Instr.typeAssert (.iface 82 (.agg #[])) 20 81 true).run Tryz.prog w = .ok (.tuple #[.agg #[], .bool false]) w := by kernel_rfl
theorem ta82_82 (w : World) : (Instr.typeAssert (.iface 82 (.agg #[])) 20 82 true).run Tryz.prog w = .ok (.tuple #[.agg #[], .bool true]) w := by kernel_rfl
theorem ta82_83 (w : World) : (Instr.typeAssert (.iface 82 (.agg #[])) 20 83 true).run Tryz.prog w = .ok (.tuple #[.agg #[], .bool false]) w := by kernel_rfl
theorem ta82_84 (w : World) : (Instr.typeAssert (.iface 82 (.agg #[])) 20 84 true).run Tryz.prog w = .ok (.tuple #[.agg #[], .bool false]) w := by kernel_rfl
theorem ta82_85 (w : World) : (Instr.typeAssert (.iface 82 (.agg #[])) 20 85 true).run Tryz.prog w = .ok (.tuple #[.agg #[], .bool false]) w := by kernel_rfl
theorem ta82_87 (w : World) : (Instr.typeAssert (.iface 82 (.agg #[])) 20 87 true).run Tryz.prog w = .ok (.tuple #[.agg #[], .bool false]) w := by kernel_rfl
theorem ta82_88 (w : World) : (Instr.typeAssert (.iface 82 (.agg #[])) 20 88 true).run Tryz.prog w = .ok (.tuple #[.agg #[], .bool false]) w := by kernel_rfl
theorem ta82_89 (w : World) : (Instr.typeAssert (.iface 82 (.agg #[])) 20 89 true).run Tryz.prog w = .ok (.tuple #[.agg #[], .bool false]) w := by kernel_rfl
theorem ta82_90 (w : World) : (Instr.typeAssert (.iface 82 (.agg #[])) 20 90 true).run Tryz.prog w = .ok (.tuple #[.agg #[], .bool false]) w := by kernel_rfl
theorem ta82_91 (w : World) : (Instr.typeAssert (.iface 82 (.agg #[])) 20 91 true).run Tryz.prog w = .ok (.tuple #[.agg #[], .bool false]) w := by kernel_rfl
theorem ta83_80 (w : World) : (Instr.typeAssert (.iface 83 (.agg #[])) 20 80 true).run Tryz.prog w = .ok (.tuple #[.agg #[], .bool false]) w := by kernel_rfl
theorem ta83_81 (w : World) : (Instr.typeAssert (.iface 83 (.agg #[])) 20 81 true).run Tryz.prog w = .ok (.tuple #[.agg #[], .bool false]) w := by kernel_rfl
theorem ta83_82 (w : World) : (Instr.typeAssert (.iface 83 (.agg #[])) 20 82 true).run Tryz.prog w = .ok (.tuple #[.agg #[], .bool false]) w := by kernel_rfl
theorem ta83_83 (w : World) : (Instr.typeAssert (.iface 83 (.agg #[])) 20 83 true).run Tryz.prog w = .ok (.tuple #[.agg #[], .bool true]) w := by kernel_rfl
theorem ta83_84 (w : World) : (Instr.typeAssert (.iface 83 (.agg #[])) 20 84 true).run Tryz.prog w = .ok (.tuple #[.agg #[], .bool false]) w := by kernel_rfl
theorem ta83_85 (w : World) : (Instr.typeAssert (.iface 83 (.agg #[])) 20 85 true).run Tryz.prog w = .ok (.tuple #[.agg #[], .bool false]) w := by kernel_rfl
theorem ta83_87 (w : World) : (Instr.typeAssert (.iface 83 (.agg #[])) 20 87 true).run Tryz.prog w = .ok (.tuple #[.agg #[], .bool false]) w := by kernel_rfl
theorem ta83_88 (w : World) : (Instr.typeAssert (.iface 83 (.agg #[])) 20 88 true).run Tryz.prog w = .ok (.tuple #[.agg #[], .bool false]) w := by kernel_rfl
theorem ta83_89 (w : World) : (Instr.typeAssert (.iface 83 (.agg #[])) 20 89 true).run Tryz.prog w = .ok (.tuple #[.agg #[], .bool false]) w := by kernel_rfl
theorem ta83_90 (w : World) : (Instr.typeAssert (.iface 83 (.agg #[])) 20 90 true).run Tryz.prog w = .ok (.tuple #[.agg #[], .bool false]) w := by kernel_rfl
theorem ta83_91 (w : World) : (Instr.typeAssert (.iface 83 (.agg #[])) 20 91 true).run Tryz.prog w = .ok (.tuple #[.agg #[], .bool false]) w := by kernel_rfl
theorem ta84_80 (w : World) : (Instr.typeAssert (.iface 84 (.agg #[])) 20 80 true).run Tryz.prog w = .ok (.tuple #[.agg #[], .bool false]) w := by kernel_rfl
theorem ta84_81 (w : World) : (Instr.typeAssert (.iface 84 (.agg #[])) 20 81 true).run Tryz.prog w = .ok (.tuple #[.agg #[], .bool false]) w := by kernel_rfl
theorem ta84_82 (w : World) : (Instr.typeAssert (.iface 84 (.agg #[])) 20 82 true).run Tryz.prog w = .ok (.tuple #[.agg #[], .bool false]) w := by kernel_rfl
theorem ta84_83 (w : World) : (Instr.typeAssert (.iface 84 (.agg #[])) 20 83 true).run Tryz.prog w = .ok (.tuple #[.agg #[], .bool false]) w := by kernel_rfl
theorem ta84_84 (w : World) : (Instr.typeAssert (.iface 84 (.agg #[])) 20 84 true).run Tryz.prog w = .ok (.tuple #[.agg #[], .bool true]) w := by kernel_rfl
theorem ta84_85 (w : World) : (Instr.typeAssert (.iface 84 (.agg #[])) 20 85 true).run Tryz.prog w = .ok (.tuple #[.agg #[], .bool false]) w := by kernel_rfl
theorem ta84_87 (w : World) : (Instr.typeAssert (.iface 84 (.agg #[])) 20 87 true).run Tryz.prog w = .ok (.tuple #[.agg #[], .bool false]) w := by kernel_rfl
theorem ta84_88 (w : World) : (Instr.typeAssert (.iface 84 (.agg #[])) 20 88 true).run Tryz.prog w = .ok (.tuple #[.agg #[], .bool false]) w := by kernel_rfl
theorem ta84_89 (w : World) : (Instr.typeAssert (.iface 84 (.agg #[])) 20 89 true).run Tryz.prog w = .ok (.tuple #[.agg #[], .bool false]) w := by kernel_rfl
theorem ta84_90 (w : World) : (Instr.typeAssert (.iface 84 (.agg #[])) 20 90 true).run Tryz.prog w = .ok (.tuple #[.agg #[], .bool false]) w := by kernel_rfl
theorem ta84_91 (w : World) : (Instr.typeAssert (.iface 84 (.agg #[])) 20 91 true).run Tryz.prog w = .ok (.tuple #[.agg #[], .bool false]) w := by kernel_rfl
theorem ta85_80 (w : World) : (Instr.typeAssert (.iface 85 (.agg #[])) 20 80 true).run Tryz.prog w = .ok (.tuple #[.agg #[], .bool false]) w := by kernel_rfl
theorem ta85_81 (w : World) : (Instr.typeAssert (.iface 85 (.agg #[])) 20 81 true).run Tryz.prog w = .ok (.tuple #[.agg #[], .bool false]) w := by kernel_rfl
theorem ta85_82 (w : World) : (Instr.typeAssert (.iface 85 (.agg #[])) 20 82 true).run Tryz.prog w = .ok (.tuple #[.agg #[], .bool false]) w := by kernel_rfl
theorem ta85_83 (w : World) : (Instr.typeAssert (.iface 85 (.agg #[])) 20 83 true).run Tryz.prog w = .ok (.tuple #[.agg #[], .bool false]) w := by kernel_rfl
theorem ta85_84 (w : World) : (Instr.typeAssert (.iface 85 (.agg #[])) 20 84 true).run Tryz.prog w = .ok (.tuple #[.agg #[], .bool false]) w := by kernel_rfl
theorem ta85_85 (w : World) : (Instr.typeAssert (.iface 85 (.agg #[])) 20 85 true).run Tryz.prog w = .ok (.tuple #[.agg #[], .bool true]) w := by kernel_rfl
theorem ta85_87 (w : World) : (Instr.typeAssert (.iface 85 (.agg #[])) 20 87 true).run Tryz.prog w = .ok (.tuple #[.agg #[], .bool false]) w := by kernel_rfl
theorem ta85_88 (w : World) : (Instr.typeAssert (.iface 85 (.agg #[])) 20 88 true).run Tryz.prog w = .ok (.tuple #[.agg #[], .bool false]) w := by kernel_rfl
theorem ta85_89 (w : World) : (Instr.typeAssert (.iface 85 (.agg #[])) 20 89 true).run Tryz.prog w = .ok (.tuple #[.agg #[], .bool false]) w := by kernel_rfl
theorem ta85_90 (w : World) : (Instr.typeAssert (.iface 85 (.agg #[])) 20 90 true).run Tryz.prog w = .ok (.tuple #[.agg #[], .bool false]) w := by kernel_rfl
theorem ta85_91 (w : World) : (Instr.typeAssert (.iface 85 (.agg #[])) 20 91 true).run Tryz.prog w = .ok (.tuple #[.agg #[], .bool false]) w := by kernel_rfl
theorem ta87_80 (w : World) : (Instr.typeAssert (.iface 87 (.agg #[])) 20 80 true).run Tryz.prog w = .ok (.tuple #[.agg #[], .bool false]) w := by kernel_rfl
theorem ta87_81 (w : World) : (Instr.typeAssert (.iface 87 (.agg #[])) 20 81 true).run Tryz.prog w = .ok (.tuple #[.agg #[], .bool false]) w := by kernel_rfl
theorem ta87_82 (w : World) : (Instr.typeAssert (.iface 87 (.agg #[])) 20 82 true).run Tryz.prog w = .ok (.tuple #[.agg #[], .bool false]) w := by kernel_rfl
theorem ta87_83 (w : World) : (Instr.typeAssert (.iface 87 (.agg #[])) 20 83 true).run Tryz.prog w = .ok (.tuple #[.agg #[], .bool false]) w := by kernel_rfl
theorem ta87_84 (w : World) : (Instr.typeAssert (.iface 87 (.agg #[])) 20 84 true).run Tryz.prog w = .ok (.tuple #[.agg #[], .bool false]) w := by kernel_rfl
theorem ta87_85 (w : World) : (Instr.typeAssert (.iface 87 (.agg #[])) 20 85 true).run Tryz.prog w = .ok (.tuple #[.agg #[], .bool false]) w := by kernel_rfl
theorem ta87_87 (w : World) : (Instr.typeAssert (.iface 87 (.agg #[])) 20 87 true).run Tryz.prog w = .ok (.tuple #[.agg #[], .bool true]) w := by kernel_rfl
theorem ta87_88 (w : World) : (Instr.typeAssert (.iface 87 (.agg #[])) 20 88 true).run Tryz.prog w = .ok (.tuple #[.agg #[], .bool false]) w := by kernel_rfl
theorem ta87_89 (w : World) : (Instr.typeAssert (.iface 87 (.agg #[])) 20 89 true).run Tryz.prog w = .ok (.tuple #[.agg #[], .bool false]) w := by kernel_rfl
theorem ta87_90 (w : World) : (Instr.typeAssert (.iface 87 (.agg #[])) 20 90 true).run Tryz.prog w = .ok (.tuple #[.agg #[], .bool false]) w := by kernel_rfl
theorem ta87_91 (w : World) : (Instr.typeAssert (.iface 87 (.agg #[])) 20 91 true).run Tryz.prog w = .ok (.tuple #[.agg #[], .bool false]) w := by kernel_rfl
theorem ta88_80 (w : World) : (Instr.typeAssert (.iface 88 (.agg #[])) 20 80 true).run Tryz.prog w = .ok (.tuple #[.agg #[], .bool false]) w := by kernel_rfl
theorem ta88_81 (w : World) : (Instr.typeAssert (.iface 88 (.agg #[])) 20 81 true).run Tryz.prog w = .ok (.tuple #[.agg #[], .bool false]) w := by kernel_rfl
theorem ta88_82 (w : World) : (Instr.typeAssert (.iface 88 (.agg #[])) 20 82 true).run Tryz.prog w = .ok (.tuple #[.agg #[], .bool false]) w := by kernel_rfl
theorem ta88_83 (w : World) : (Instr.typeAssert (.iface 88 (.agg #[])) 20 83 true).run Tryz.prog w = .ok (.tuple #[.agg #[], .bool false]) w := by kernel_rfl
theorem ta88_84 (w : World) : (Instr.typeAssert (.iface 88 (.agg #[])) 20 84 true).run Tryz.prog w = .ok (.tuple #[.agg #[], .bool false]) w := by kernel_rfl
theorem ta88_85 (w : World) : (Instr.typeAssert (.iface 88 (.agg #[])) 20 85 true).run Tryz.prog w = .ok (.tuple #[.agg #[], .bool false]) w := by kernel_rfl
theorem ta88_87 (w : World) : (Instr.typeAssert (.iface 88 (.agg #[])) 20 87 true).run Tryz.prog w = .ok (.tuple #[.agg #[], .bool false]) w := by kernel_rfl
theorem ta88_88 (w : World) : (Instr.typeAssert (.iface 88 (.agg #[])) 20 88 true).run Tryz.prog w = .ok (.tuple #[.agg #[], .bool true]) w := by kernel_rfl
theorem ta88_89 (w : World) : (Instr.typeAssert (.iface 88 (.agg #[])) 20 89 true).run Tryz.prog w = .ok (.tuple #[.agg #[], .bool false]) w := by kernel_rfl
theorem ta88_90 (w : World) : (Instr.typeAssert (.iface 88 (.agg #[])) 20 90 true).run Tryz.prog w = .ok (.tuple #[.agg #[], .bool false]) w := by kernel_rfl
theorem ta88_91 (w : World) : (Instr.typeAssert (.iface 88 (.agg #[])) 20 91 true).run Tryz.prog w = .ok (.tuple #[.agg #[], .bool false]) w := by kernel_rfl
theorem ta89_80 (w : World) : (Instr.typeAssert (.iface 89 (.agg #[])) 20 80 true).run Tryz.prog w = .ok (.tuple #[.agg #[], .bool false]) w := by kernel_rfl
theorem ta89_81 (w : World) : (Instr.typeAssert (.iface 89 (.agg #[])) 20 81 true).run Tryz.prog w = .ok (.tuple #[.agg #[], .bool false]) w := by kernel_rfl
theorem ta89_82 (w : World) : (Instr.typeAssert (.iface 89 (.agg #[])) 20 82 true).run Tryz.prog w = .ok (.tuple #[.agg #[], .bool false]) w := by kernel_rfl
theorem ta89_83 (w : World) : (Instr.typeAssert (.iface 89 (.agg #[])) 20 83 true).run Tryz.prog w = .ok (.tuple #[.agg #[], .bool false]) w := by kernel_rfl
theorem ta89_84 (w : World) : (Instr.typeAssert (.iface 89 (.agg #[])) 20 84 true).run Tryz.prog w = .ok (.tuple #[.agg #[], .bool false]) w := by kernel_rfl
theorem ta89_85 (w : World) : (Instr.typeAssert (.iface 89 (.agg #[])) 20 85 true).run Tryz.prog w = .ok (.tuple #[.agg #[], .bool false]) w := by kernel_rfl
theorem ta89_87 (w : World) : (Instr.typeAssert (.iface 89 (.agg #[])) 20 87 true).run Tryz.prog w = .ok (.tuple #[.agg #[], .bool false]) w := by kernel_rfl
theorem ta89_88 (w : World) : (Instr.typeAssert (.iface 89 (.agg #[])) 20 88 true).run Tryz.prog w = .ok (.tuple #[.agg #[], .bool false]) w := by kernel_rfl
theorem ta89_89 (w : World) : (Instr.typeAssert (.iface 89 (.agg #[])) 20 89 true).run Tryz.prog w = .ok (.tuple #[.agg #[], .bool true]) w := by kernel_rfl
theorem ta89_90 (w : World) : (Instr.typeAssert (.iface 89 (.agg #[])) 20 90 true).run Tryz.prog w = .ok (.tuple #[.agg #[], .bool false]) w := by kernel_rfl
theorem ta89_91 (w : World) : (Instr.typeAssert (.iface 89 (.agg #[])) 20 91 true).run Tryz.prog w = .ok (.tuple #[.agg #[], .bool false]) w := by kernel_rfl
theorem ta90_80 (w : World) : (Instr.typeAssert (.iface 90 (.agg #[])) 20 80 true).run Tryz.prog w = .ok (.tuple #[.agg #[], .bool false]) w := by kernel_rfl
theorem ta90_81 (w : World) : (Instr.typeAssert (.iface 90 (.agg #[])) 20 81 true).run Tryz.prog w = .ok (.tuple #[.agg #[], .bool false]) w := by kernel_rfl
theorem ta90_82 (w : World) : (Instr.typeAssert (.iface 90 (.agg #[])) 20 82 true).run Tryz.prog w = .ok (.tuple #[.agg #[], .bool false]) w := by kernel_rfl
theorem ta90_83 (w : World) : (Instr.typeAssert (.iface 90 (.agg #[])) 20 83 true).run Tryz.prog w = .ok (.tuple #[.agg #[], .bool false]) w := by kernel_rfl
theorem ta90_84 (w : World) : (Instr.typeAssert (.iface 90 (.agg #[])) 20 84 true).run Tryz.prog w = .ok (.tuple #[.agg #[], .bool false]) w := by kernel_rfl
theorem ta90_85 (w : World) : (Instr.typeAssert (.iface 90 (.agg #[])) 20 85 true).run Tryz.prog w = .ok (.tuple #[.agg #[], .bool false]) w := by kernel_rfl
theorem ta90_87 (w : World) : (Instr.typeAssert (.iface 90 (.agg #[])) 20 87 true).run Tryz.prog w = .ok (.tuple #[.agg #[], .bool false]) w := by kernel_rfl
theorem ta90_88 (w : World) : (Instr.typeAssert (.iface 90 (.agg #[])) 20 88 true).run Tryz.prog w = .ok (.tuple #[.agg #[], .bool false]) w := by kernel_rfl
theorem ta90_89 (w : World) : (Instr.typeAssert (.iface 90 (.agg #[])) 20 89 true).run Tryz.prog w = .ok (.tuple #[.agg #[], .bool false]) w := by kernel_rfl
theorem ta90_90 (w : World) : (Instr.typeAssert (.iface 90 (.agg #[])) 20 90 true).run Tryz.prog w = .ok (.tuple #[.agg #[], .bool true]) w := by kernel_rfl
theorem ta90_91 (w : World) : (Instr.typeAssert (.iface 90 (.agg #[])) 20 91 true).run Tryz.prog w = .ok (.tuple #[.agg #[], .bool false]) w := by kernel_rfl
theorem ta91_80 (w : World) : (Instr.typeAssert (.iface 91 (.agg #[])) 20 80 true).run Tryz.prog w = .ok (.tuple #[.agg #[], .bool false]) w := by kernel_rfl
theorem ta91_81 (w : World) : (Instr.typeAssert (.iface 91 (.agg #[])) 20 81 true).run Tryz.prog w = .ok (.tuple #[.agg #[], .bool false]) w := by kernel_rfl
theorem ta91_82 (w : World) : (Instr.typeAssert (.iface 91 (.agg #[])) 20 82 true).run Tryz.prog w = .ok (.tuple #[.agg #[], .bool false]) w := by kernel_rfl
theorem ta91_83 (w : World) : (Instr.typeAssert (.iface 91 (.agg #[])) 20 83 true).run Tryz.prog w = .ok (.tuple #[.agg #[], .bool false]) w := by kernel_rfl
theorem ta91_84 (w : World) : (Instr.typeAssert (.iface 91 (.agg #[])) 20 84 true).run Tryz.prog w = .ok (.tuple #[.agg #[], .bool false]) w := by kernel_rfl
theorem ta91_85 (w : World) : (Instr.typeAssert (.iface 91 (.agg #[])) 20 85 true).run Tryz.prog w = .ok (.tuple #[.agg #[], .bool false]) w := by kernel_rfl
theorem ta91_87 (w : World) : (Instr.typeAssert (.iface 91 (.agg #[])) 20 87 true).run Tryz.prog w = .ok (.tuple #[.agg #[], .bool false]) w := by kernel_rfl
theorem ta91_88 (w : World) : (Instr.typeAssert (.iface 91 (.agg #[])) 20 88 true).run Tryz.prog w = .ok (.tuple #[.agg #[], .bool false]) w := by kernel_rfl
theorem ta91_89 (w : World) : (Instr.typeAssert (.iface 91 (.agg #[])) 20 89 true).run Tryz.prog w = .ok (.tuple #[.agg #[], .bool false]) w := by kernel_rfl
theorem ta91_90 (w : World) : (Instr.typeAssert (.iface 91 (.agg #[])) 20 90 true).run Tryz.prog w = .ok (.tuple #[.agg #[], .bool false]) w := by kernel_rfl
theorem ta91_91 (w : World) : (Instr.typeAssert (.iface 91 (.agg #[])) 20 91 true).run Tryz.prog w = .ok (.tuple #[.agg #[], .bool true]) w := by kernel_rfl
theorem ta124_80 (w : World) : (Instr.typeAssert (.iface 124 (.agg #[])) 20 80 true).run Tryz.prog w = .ok (.tuple #[.agg #[], .bool false]) w := by kernel_rfl
theorem ta124_81 (w : World) : (Instr.typeAssert (.iface 124 (.agg #[])) 20 81 true).run Tryz.prog w = .ok (.tuple #[.agg #[], .bool false]) w := by kernel_rfl
theorem ta124_82 (w : World) : (Instr.typeAssert (.iface 124 (.agg #[])) 20 82 true).run Tryz.prog w = .ok (.tuple #[.agg #[], .bool false]) w := by kernel_rfl
theorem ta124_83 (w : World) : (Instr.typeAssert (.iface 124 (.agg #[])) 20 83 true).run Tryz.prog w = .ok (.tuple #[.agg #[], .bool false]) w := by kernel_rfl
theorem ta124_84 (w : World) : (Instr.typeAssert (.iface 124 (.agg #[])) 20 84 true).run Tryz.prog w = .ok (.tuple #[.agg #[], .bool false]) w := by kernel_rfl
theorem ta124_85 (w : World) : (Instr.typeAssert (.iface 124 (.agg #[])) 20 85 true).run Tryz.prog w = .ok (.tuple #[.agg #[], .bool false]) w := by kernel_rfl
theorem ta124_87 (w : World) : (Instr.typeAssert (.iface 124 (.agg #[])) 20 87 true).run Tryz.prog w = .ok (.tuple #[.agg #[], .bool false]) w := by kernel_rfl
theorem ta124_88 (w : World) : (Instr.typeAssert (.iface 124 (.agg #[])) 20 88 true).run Tryz.prog w = .ok (.tuple #[.agg #[], .bool false]) w := by kernel_rfl
theorem ta124_89 (w : World) : (Instr.typeAssert (.iface 124 (.agg #[])) 20 89 true).run Tryz.prog w = .ok (.tuple #[.agg #[], .bool false]) w := by kernel_rfl
theorem ta124_90 (w : World) : (Instr.typeAssert (.iface 124 (.agg #[])) 20 90 true).run Tryz.prog w = .ok (.tuple #[.agg #[], .bool false]) w := by kernel_rfl
theorem ta124_91 (w : World) : (Instr.typeAssert (.iface 124 (.agg #[])) 20 91 true).run Tryz.prog w = .ok (.tuple #[.agg #[], .bool false]) w := by kernel_rfl

end Go.Proofs.YtoifjjgakblhhaaGreatDoor

/- The library calls that this program makes, by the contracts of the library: prefix, cut, trims, a number written in tens. -/
namespace Go.Proofs
open Go.Shelf
def Tryz.lays161_ren : Go.Shelf.Ren := ⟨fun | 161 => 168 | 231 => 188 | 227 => 189 | 233 => 190 | 235 => 191 | 228 => 204 | 197 => 205 | 151 => 206 | 260 => 214 | 152 => 215 | 137 => 219 | 119 => 220 | 224 => 212 | 225 => 211 | 217 => 210 | 266 => 217 | n => n, fun | 9 => 9 | 4 => 4 | 3 => 3 | 5 => 5 | 117 => 190 | 116 => 189 | 0 => 0 | 124 => 193 | 105 => 203 | 21 => 21 | 119 => 214 | 46 => 113 | 139 => 217 | 138 => 216 | n => n, fun | 3 => 4 | 4 => 5 | n => n⟩
theorem Tryz.lays161 : Go.Proofs.Lays.n161 Tryz.prog Tryz.lays161_ren := {
  mixed := by kernel_rfl
  f119 := Tryz.func220.trans (congrArg some (by kernel_rfl))
  f137 := Tryz.func219.trans (congrArg some (by kernel_rfl))
  f151 := Tryz.func206.trans (congrArg some (by kernel_rfl))
  f152 := Tryz.func215.trans (congrArg some (by kernel_rfl))
  f161 := Tryz.func168.trans (congrArg some (by kernel_rfl))
  f197 := Tryz.func205.trans (congrArg some (by kernel_rfl))
  f217 := Tryz.func210.trans (congrArg some (by kernel_rfl))
  f224 := Tryz.func212.trans (congrArg some (by kernel_rfl))
  f225 := Tryz.func211.trans (congrArg some (by kernel_rfl))
  f227 := Tryz.func189.trans (congrArg some (by kernel_rfl))
  f228 := Tryz.func204.trans (congrArg some (by kernel_rfl))
  f231 := Tryz.func188.trans (congrArg some (by kernel_rfl))
  f233 := Tryz.func190.trans (congrArg some (by kernel_rfl))
  f235 := Tryz.func191.trans (congrArg some (by kernel_rfl))
  f260 := Tryz.func214.trans (congrArg some (by kernel_rfl))
  f266 := Tryz.func217.trans (congrArg some (by kernel_rfl))
  t0 := Tryz.underlying0
  a0 := Tryz.isAgg0
  z0 := Tryz.sizeOf0
  v0 := Tryz.zeroValue0
  t3 := Tryz.underlying3
  a3 := Tryz.isAgg3
  z3 := Tryz.sizeOf3
  v3 := Tryz.zeroValue3
  t4 := Tryz.underlying4
  a4 := Tryz.isAgg4
  z4 := Tryz.sizeOf4
  v4 := Tryz.zeroValue4
  t5 := Tryz.underlying5
  a5 := Tryz.isAgg5
  z5 := Tryz.sizeOf5
  v5 := Tryz.zeroValue5
  t9 := Tryz.underlying9
  a9 := Tryz.isAgg9
  z9 := Tryz.sizeOf9
  v9 := Tryz.zeroValue9
  t21 := Tryz.underlying21
  a21 := Tryz.isAgg21
  z21 := Tryz.sizeOf21
  v21 := Tryz.zeroValue21
  t46 := Tryz.underlying113
  a46 := Tryz.isAgg113
  z46 := Tryz.sizeOf113
  v46 := Tryz.zeroValue113
  t105 := Tryz.underlying203
  a105 := Tryz.isAgg203
  z105 := Tryz.sizeOf203
  v105 := Tryz.zeroValue203
  t116 := Tryz.underlying189
  a116 := Tryz.isAgg189
  z116 := Tryz.sizeOf189
  t117 := Tryz.underlying190
  a117 := Tryz.isAgg190
  z117 := Tryz.sizeOf190
  v117 := Tryz.zeroValue190
  t119 := Tryz.underlying214
  a119 := Tryz.isAgg214
  z119 := Tryz.sizeOf214
  t124 := Tryz.underlying193
  a124 := Tryz.isAgg193
  z124 := Tryz.sizeOf193
  v124 := Tryz.zeroValue193
  t138 := Tryz.underlying216
  a138 := Tryz.isAgg216
  z138 := Tryz.sizeOf216
  v138 := Tryz.zeroValue216
  t139 := Tryz.underlying217
  a139 := Tryz.isAgg217
  z139 := Tryz.sizeOf217
  v139 := Tryz.zeroValue217
  g3 := by kernel_rfl
  g4 := by kernel_rfl }
open Go.RowKit in
/-- strings.TrimLeft: "TrimLeft returns a slice of the string s with all leading Unicode code points contained in cutset removed.": AT A cutset OF ONE ASCII BYTE. The world is as it was. (LAID: no walk: one application.) -/
theorem Tryz.strings_TrimLeft_one (s : ByteArray) (c : UInt8) (hc : c.toNat < 128) (w : World) :
    Calls Tryz.prog 168 #[.string s, .string ⟨#[c]⟩] w fun e w' => e = .returned (.string ⟨(Lib.trimLeftB s.data.toList c).toArray⟩) ∧ w' = w := Any.strings_TrimLeft_one Tryz.lays161 s c hc w
def Tryz.lays162_ren : Go.Shelf.Ren := ⟨fun | 162 => 169 | 232 => 192 | 227 => 189 | 234 => 193 | 236 => 194 | 228 => 204 | 271 => 207 | 151 => 206 | 120 => 216 | 197 => 205 | 152 => 215 | 260 => 214 | 137 => 219 | 119 => 220 | 224 => 212 | 225 => 211 | 217 => 210 | 266 => 217 | n => n, fun | 9 => 9 | 4 => 4 | 3 => 3 | 5 => 5 | 117 => 190 | 116 => 189 | 0 => 0 | 124 => 193 | 21 => 21 | 105 => 203 | 46 => 113 | 119 => 214 | 139 => 217 | 138 => 216 | n => n, fun | 3 => 4 | 4 => 5 | n => n⟩
theorem Tryz.lays162 : Go.Proofs.Lays.n162 Tryz.prog Tryz.lays162_ren := {
  mixed := by kernel_rfl
  f119 := Tryz.func220.trans (congrArg some (by kernel_rfl))
  f120 := Tryz.func216.trans (congrArg some (by kernel_rfl))
  f137 := Tryz.func219.trans (congrArg some (by kernel_rfl))
  f151 := Tryz.func206.trans (congrArg some (by kernel_rfl))
  f152 := Tryz.func215.trans (congrArg some (by kernel_rfl))
  f162 := Tryz.func169.trans (congrArg some (by kernel_rfl))
  f197 := Tryz.func205.trans (congrArg some (by kernel_rfl))
  f217 := Tryz.func210.trans (congrArg some (by kernel_rfl))
  f224 := Tryz.func212.trans (congrArg some (by kernel_rfl))
  f225 := Tryz.func211.trans (congrArg some (by kernel_rfl))
  f227 := Tryz.func189.trans (congrArg some (by kernel_rfl))
  f228 := Tryz.func204.trans (congrArg some (by kernel_rfl))
  f232 := Tryz.func192.trans (congrArg some (by kernel_rfl))
  f234 := Tryz.func193.trans (congrArg some (by kernel_rfl))
  f236 := Tryz.func194.trans (congrArg some (by kernel_rfl))
  f260 := Tryz.func214.trans (congrArg some (by kernel_rfl))
  f266 := Tryz.func217.trans (congrArg some (by kernel_rfl))
  f271 := Tryz.func207.trans (congrArg some (by kernel_rfl))
  t0 := Tryz.underlying0
  a0 := Tryz.isAgg0
  z0 := Tryz.sizeOf0
  v0 := Tryz.zeroValue0
  t3 := Tryz.underlying3
  a3 := Tryz.isAgg3
  z3 := Tryz.sizeOf3
  v3 := Tryz.zeroValue3
  t4 := Tryz.underlying4
  a4 := Tryz.isAgg4
  z4 := Tryz.sizeOf4
  v4 := Tryz.zeroValue4
  t5 := Tryz.underlying5
  a5 := Tryz.isAgg5
  z5 := Tryz.sizeOf5
  v5 := Tryz.zeroValue5
  t9 := Tryz.underlying9
  a9 := Tryz.isAgg9
  z9 := Tryz.sizeOf9
  v9 := Tryz.zeroValue9
  t21 := Tryz.underlying21
  a21 := Tryz.isAgg21
  z21 := Tryz.sizeOf21
  v21 := Tryz.zeroValue21
  t46 := Tryz.underlying113
  a46 := Tryz.isAgg113
  z46 := Tryz.sizeOf113
  v46 := Tryz.zeroValue113
  t105 := Tryz.underlying203
  a105 := Tryz.isAgg203
  z105 := Tryz.sizeOf203
  v105 := Tryz.zeroValue203
  t116 := Tryz.underlying189
  a116 := Tryz.isAgg189
  z116 := Tryz.sizeOf189
  t117 := Tryz.underlying190
  a117 := Tryz.isAgg190
  z117 := Tryz.sizeOf190
  v117 := Tryz.zeroValue190
  t119 := Tryz.underlying214
  a119 := Tryz.isAgg214
  z119 := Tryz.sizeOf214
  t124 := Tryz.underlying193
  a124 := Tryz.isAgg193
  z124 := Tryz.sizeOf193
  v124 := Tryz.zeroValue193
  t138 := Tryz.underlying216
  a138 := Tryz.isAgg216
  z138 := Tryz.sizeOf216
  v138 := Tryz.zeroValue216
  t139 := Tryz.underlying217
  a139 := Tryz.isAgg217
  z139 := Tryz.sizeOf217
  v139 := Tryz.zeroValue217
  g3 := by kernel_rfl
  g4 := by kernel_rfl }
open Go.RowKit in
/-- strings.TrimRight: "TrimRight returns a slice of the string s, with all trailing Unicode code points contained in cutset removed.": AT A cutset OF ONE ASCII BYTE. The world is as it was. (LAID: no walk: one application.) -/
theorem Tryz.strings_TrimRight_one (s : ByteArray) (c : UInt8) (hc : c.toNat < 128) (w : World) (hs : s.size ≤ 9223372036854775807) :
    Calls Tryz.prog 169 #[.string s, .string ⟨#[c]⟩] w fun e w' => e = .returned (.string ⟨(Lib.trimRightB s.data.toList c).toArray⟩) ∧ w' = w := Any.strings_TrimRight_one Tryz.lays162 s c hc w hs
def Tryz.laysM173_ren : Go.Shelf.Ren := ⟨fun | 173 => 153 | 246 => 176 | 283 => 171 | 284 => 172 | 285 => 173 | 286 => 174 | 129 => 196 | 317 => 195 | 318 => 197 | 319 => 198 | 320 => 199 | 337 => 208 | 338 => 209 | n => n, fun | 2 => 2 | 3 => 3 | 9 => 9 | 4 => 4 | 171 => 175 | 0 => 0 | 53 => 111 | 37 => 40 | 5 => 5 | 173 => 178 | 212 => 195 | 51 => 133 | 20 => 20 | 213 => 196 | 46 => 113 | 232 => 210 | 233 => 211 | n => n, fun | 17 => 1 | 18 => 2 | 19 => 3 | n => n⟩
theorem Tryz.laysM173 : Go.Proofs.LaysM.n173 Tryz.prog Tryz.laysM173_ren := {
  mixed := by kernel_rfl
  f129 := Tryz.func196.trans (congrArg some (by kernel_rfl))
  f173 := Tryz.func153.trans (congrArg some (by kernel_rfl))
  f246 := Tryz.func176.trans (congrArg some (by kernel_rfl))
  f283 := Tryz.func171.trans (congrArg some (by kernel_rfl))
  f284 := Tryz.func172.trans (congrArg some (by kernel_rfl))
  f285 := Tryz.func173.trans (congrArg some (by kernel_rfl))
  f286 := Tryz.func174.trans (congrArg some (by kernel_rfl))
  f317 := Tryz.func195.trans (congrArg some (by kernel_rfl))
  f318 := Tryz.func197.trans (congrArg some (by kernel_rfl))
  f319 := Tryz.func198.trans (congrArg some (by kernel_rfl))
  f320 := Tryz.func199.trans (congrArg some (by kernel_rfl))
  f337 := Tryz.func208.trans (congrArg some (by kernel_rfl))
  f338 := Tryz.func209.trans (congrArg some (by kernel_rfl))
  t0 := Tryz.underlying0
  a0 := Tryz.isAgg0
  z0 := Tryz.sizeOf0
  v0 := Tryz.zeroValue0
  t2 := Tryz.underlying2
  a2 := Tryz.isAgg2
  z2 := Tryz.sizeOf2
  v2 := Tryz.zeroValue2
  t3 := Tryz.underlying3
  a3 := Tryz.isAgg3
  z3 := Tryz.sizeOf3
  v3 := Tryz.zeroValue3
  t4 := Tryz.underlying4
  a4 := Tryz.isAgg4
  z4 := Tryz.sizeOf4
  v4 := Tryz.zeroValue4
  t5 := Tryz.underlying5
  a5 := Tryz.isAgg5
  z5 := Tryz.sizeOf5
  v5 := Tryz.zeroValue5
  t9 := Tryz.underlying9
  a9 := Tryz.isAgg9
  z9 := Tryz.sizeOf9
  v9 := Tryz.zeroValue9
  t20 := Tryz.underlying20
  a20 := Tryz.isAgg20
  z20 := Tryz.sizeOf20
  v20 := Tryz.zeroValue20
  t37 := Tryz.underlying40
  a37 := Tryz.isAgg40
  z37 := Tryz.sizeOf40
  v37 := Tryz.zeroValue40
  t46 := Tryz.underlying113
  a46 := Tryz.isAgg113
  z46 := Tryz.sizeOf113
  v46 := Tryz.zeroValue113
  t51 := Tryz.underlying133
  a51 := Tryz.isAgg133
  z51 := Tryz.sizeOf133
  v51 := Tryz.zeroValue133
  t53 := Tryz.underlying111
  a53 := Tryz.isAgg111
  z53 := Tryz.sizeOf111
  v53 := Tryz.zeroValue111
  t171 := Tryz.underlying175
  a171 := Tryz.isAgg175
  z171 := Tryz.sizeOf175
  v171 := Tryz.zeroValue175
  t173 := Tryz.underlying178
  a173 := Tryz.isAgg178
  z173 := Tryz.sizeOf178
  v173 := Tryz.zeroValue178
  t212 := Tryz.underlying195
  a212 := Tryz.isAgg195
  z212 := Tryz.sizeOf195
  v212 := Tryz.zeroValue195
  t213 := Tryz.underlying196
  a213 := Tryz.isAgg196
  z213 := Tryz.sizeOf196
  t232 := Tryz.underlying210
  a232 := Tryz.isAgg210
  z232 := Tryz.sizeOf210
  v232 := Tryz.zeroValue210
  t233 := Tryz.underlying211
  a233 := Tryz.isAgg211
  z233 := Tryz.sizeOf211
  v233 := Tryz.zeroValue211
  g17 := by kernel_rfl
  g18 := by kernel_rfl
  g19 := by kernel_rfl
  i0 := by kernel_rfl
  i2 := by kernel_rfl
  i3 := by kernel_rfl
  i4 := by kernel_rfl
  i5 := by kernel_rfl
  i9 := by kernel_rfl
  i20 := by kernel_rfl
  i37 := by kernel_rfl
  i46 := by kernel_rfl
  i51 := by kernel_rfl
  i53 := by kernel_rfl
  i171 := by kernel_rfl
  i173 := by kernel_rfl
  i212 := by kernel_rfl
  i232 := by kernel_rfl
  i233 := by kernel_rfl
  m17 := by kernel_rfl
  m18 := by kernel_rfl
  m19 := by kernel_rfl }
open Go.RowKit Go.Sort Go.Lib in
/-- strconv.FormatInt: "FormatInt returns the string representation of i in the given base": AT BASE 10: i's decimal numeral, for every int64. (LAID: no walk: one application.) -/
theorem Tryz.strconv_FormatInt_10 (n : Int) (h0 : -9223372036854775808 ≤ n) (h1 : n ≤ 9223372036854775807) (w : World) (htab : Lib.TabIs Tryz.prog w "internal/strconv.uint64pow10" .u64 Lib.pow10Tab) :
    Calls Tryz.prog 153 #[.int .i64 n, .int .i64 10] w fun e w' => e = .returned (.string ⟨(Lib.itoa n).toArray⟩) ∧ ∃ k os, w' = grow (w.drewN k) os := Any.strconv_FormatInt_10 Tryz.laysM173 n h0 h1 w htab
def Tryz.lays145_ren : Go.Shelf.Ren := ⟨fun | 145 => 166 | 220 => 187 | 219 => 203 | 217 => 210 | 225 => 211 | 224 => 212 | 267 => 213 | 266 => 217 | 314 => 218 | n => n, fun | 9 => 9 | 4 => 4 | 59 => 172 | 3 => 3 | 5 => 5 | 46 => 113 | 146 => 212 | 51 => 133 | n => n, fun | 1 => 0 | n => n⟩
theorem Tryz.lays145 : Go.Proofs.Lays.n145 Tryz.prog Tryz.lays145_ren := {
  mixed := by kernel_rfl
  f145 := Tryz.func166.trans (congrArg some (by kernel_rfl))
  f217 := Tryz.func210.trans (congrArg some (by kernel_rfl))
  f219 := Tryz.func203.trans (congrArg some (by kernel_rfl))
  f220 := Tryz.func187.trans (congrArg some (by kernel_rfl))
  f224 := Tryz.func212.trans (congrArg some (by kernel_rfl))
  f225 := Tryz.func211.trans (congrArg some (by kernel_rfl))
  f266 := Tryz.func217.trans (congrArg some (by kernel_rfl))
  f267 := Tryz.func213.trans (congrArg some (by kernel_rfl))
  f314 := Tryz.func218.trans (congrArg some (by kernel_rfl))
  t3 := Tryz.underlying3
  a3 := Tryz.isAgg3
  z3 := Tryz.sizeOf3
  v3 := Tryz.zeroValue3
  t4 := Tryz.underlying4
  a4 := Tryz.isAgg4
  z4 := Tryz.sizeOf4
  v4 := Tryz.zeroValue4
  t5 := Tryz.underlying5
  a5 := Tryz.isAgg5
  z5 := Tryz.sizeOf5
  v5 := Tryz.zeroValue5
  t9 := Tryz.underlying9
  a9 := Tryz.isAgg9
  z9 := Tryz.sizeOf9
  v9 := Tryz.zeroValue9
  t46 := Tryz.underlying113
  a46 := Tryz.isAgg113
  z46 := Tryz.sizeOf113
  v46 := Tryz.zeroValue113
  t51 := Tryz.underlying133
  a51 := Tryz.isAgg133
  z51 := Tryz.sizeOf133
  v51 := Tryz.zeroValue133
  t59 := Tryz.underlying172
  a59 := Tryz.isAgg172
  z59 := Tryz.sizeOf172
  v59 := Tryz.zeroValue172
  t146 := Tryz.underlying212
  a146 := Tryz.isAgg212
  z146 := Tryz.sizeOf212
  v146 := Tryz.zeroValue212
  g1 := by kernel_rfl }
open Go.RowKit Go.Lib in
/-- strings.Cut: "Cut slices s around the first instance of sep, returning the text before and after sep. The found result reports whether sep appears in s. If sep does not appear in s, cut returns s, "", false.": IT RETURNS 'Lib.cut s sep'; the world is as it was but for the count of draws. (LAID: no walk: one application.) -/
theorem Tryz.strings_Cut (s sep : ByteArray) (m : Int) (w : World) (hs : s.size < 4294967281) (hm : w.cell? ⟨0, 0, none⟩ = some (.int .i64 m)) :
    Calls Tryz.prog 166 #[.string s, .string sep] w fun e w' => e = .returned (.tuple #[.string ⟨(Lib.cut s.data.toList sep.data.toList).1.toArray⟩, .string ⟨(Lib.cut s.data.toList sep.data.toList).2.1.toArray⟩, .bool (Lib.cut s.data.toList sep.data.toList).2.2]) ∧ ∃ n, w' = w.drewN n := Any.strings_Cut Tryz.lays145 s sep m w hs hm
def Tryz.lays99_ren : Go.Shelf.Ren := ⟨fun | 99 => 165 | 206 => 186 | n => n, fun | 9 => 9 | 4 => 4 | 3 => 3 | n => n, fun | n => n⟩
theorem Tryz.lays99 : Go.Proofs.Lays.n99 Tryz.prog Tryz.lays99_ren := {
  mixed := by kernel_rfl
  f99 := Tryz.func165.trans (congrArg some (by kernel_rfl))
  f206 := Tryz.func186.trans (congrArg some (by kernel_rfl))
  t3 := Tryz.underlying3
  a3 := Tryz.isAgg3
  z3 := Tryz.sizeOf3
  v3 := Tryz.zeroValue3
  t4 := Tryz.underlying4
  a4 := Tryz.isAgg4
  z4 := Tryz.sizeOf4
  v4 := Tryz.zeroValue4
  t9 := Tryz.underlying9
  a9 := Tryz.isAgg9
  z9 := Tryz.sizeOf9
  v9 := Tryz.zeroValue9 }
open Go.RowKit Go.Lib in
/-- strings.HasPrefix: "HasPrefix reports whether the string s begins with prefix.": IT RETURNS 'Lib.hasPrefix s prefix'; the world is as it was. (LAID: no walk: one application.) -/
theorem Tryz.strings_HasPrefix (s p : ByteArray) (w : World) :
    Calls Tryz.prog 165 #[.string s, .string p] w fun e w' => e = .returned (.bool (Lib.hasPrefix s.data.toList p.data.toList)) ∧ w' = w := Any.strings_HasPrefix Tryz.lays99 s p w
end Go.Proofs
