/- Whether values in one another may be. -/
import Derived.Test.YtoifjjgakblhhaaDoorO2m
import Derived.Deep.MidRow
namespace Go.Proofs.YtoifjjgakblhhaaDoor
open Go.RowKit

theorem range6 {w : World} {g off : Nat} {a b c d e f : Value} (h0 : w.cell? ⟨g, off, none⟩ = some a) (h1 : w.cell? ⟨g, off + 1, none⟩ = some b) (h2 : w.cell? ⟨g, off + 2, none⟩ = some c)
    (h3 : w.cell? ⟨g, off + 3, none⟩ = some d) (h4 : w.cell? ⟨g, off + 4, none⟩ = some e) (h5 : w.cell? ⟨g, off + 5, none⟩ = some f) : w.rangeAt g off [a, b, c, d, e, f] := by
  intro j v hv
  match j, hv with
  | 0, e => cases e; exact h0
  | 1, e => cases e; exact h1
  | 2, e => cases e; exact h2
  | 3, e => cases e; exact h3
  | 4, e => cases e; exact h4
  | 5, e => cases e; exact h5
  | j + 6, e => simp at e
theorem wpList_loadMid6 {ops : Array Oper} {rest : List Oper} {o : Oper} {a : Act} {w : World} {Q : Exit → Act → World → Prop} (y : Operand) (g off : Nat) (k : Int) (b : Bool) (n : Int) (t x : ByteArray) (L : Value)
    (h0 : w.cell? ⟨g, off, none⟩ = some (.int .i64 k)) (h1 : w.cell? ⟨g, off + 1, none⟩ = some (.bool b)) (h2 : w.cell? ⟨g, off + 2, none⟩ = some (.int .i64 n))
    (h3 : w.cell? ⟨g, off + 3, none⟩ = some (.string t)) (h4 : w.cell? ⟨g, off + 4, none⟩ = some (.string x)) (h5 : w.cell? ⟨g, off + 5, none⟩ = some L)
    (hgd : o.guard = none) (ho : o.op = .load 28 y) (hx : a.eval y = .pointer (some ⟨g, off, none⟩))
    (h : wpList Tryd.prog ops Q rest (a.put o.dst (.agg #[.int .i64 k, .bool b, .int .i64 n, .string t, .string x, L])) w) : wpList Tryd.prog ops Q (o :: rest) a w :=
  wpList_load_mid hgd 28 y ho g off hx [.int .i64 k, .bool b, .int .i64 n, .string t, .string x, L] _ (range6 h0 h1 h2 h3 h4 h5) Tryd.underlying28 rfl info28 h
end Go.Proofs.YtoifjjgakblhhaaDoor
