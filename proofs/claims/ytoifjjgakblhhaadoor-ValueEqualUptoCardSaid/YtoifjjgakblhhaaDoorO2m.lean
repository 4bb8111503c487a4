/- Values in one another: the model, where one lies in memory, which may be. -/
import Derived.Test.YtoifjjgakblhhaaDoorGm
namespace Go.Proofs.YtoifjjgakblhhaaDoor
open Go.RowKit

/-- A value: kind, bool, number, text, extra, list. -/
inductive Val where
  | mk (k : Int) (b : Bool) (n : Int) (t x : ByteArray) (l : List Val)

/-- What is small enough, and a number that fits. -/
structure Fine (n : Int) (t x : ByteArray) (len : Nat) : Prop where
  ht : t.size ≤ 2097152
  hx : x.size ≤ 2097152
  hn : len ≤ 2097152
  lo : -9223372036854775808 ≤ n
  hi : n ≤ 9223372036854775807

mutual
/-- A value's six cells lie from off on. -/
def HoldsOne (w : World) (g off : Nat) : Val → Prop
  | .mk k b n t x l => w.cell? ⟨g, off, none⟩ = some (.int .i64 k) ∧ w.cell? ⟨g, off + 1, none⟩ = some (.bool b) ∧ w.cell? ⟨g, off + 2, none⟩ = some (.int .i64 n) ∧
    w.cell? ⟨g, off + 3, none⟩ = some (.string t) ∧ w.cell? ⟨g, off + 4, none⟩ = some (.string x) ∧ Fine n t x l.length ∧
    ∃ L, w.cell? ⟨g, off + 5, none⟩ = some L ∧ Held w L l
/-- A slice whose elements are these. -/
def Held (w : World) (L : Value) : List Val → Prop
  | [] => ∃ p cap, L = .slice p 0 cap
  | v :: r => ∃ g off cap, L = .slice (some ⟨g, off, none⟩) (r.length + 1) cap ∧ HoldsOne w g off v ∧ Holds w g (off + 6) r
/-- Values one behind the other from off on. -/
def Holds (w : World) (g off : Nat) : List Val → Prop
  | [] => True
  | v :: r => HoldsOne w g off v ∧ Holds w g (off + 6) r
end

mutual
theorem HoldsOne.below {w w' : World} {g off : Nat} : (v : Val) → HoldsOne w g off v → Below w.heap.size w w' → HoldsOne w' g off v
  | .mk _ _ _ _ _ l, h, q => by
    unfold HoldsOne at h ⊢
    obtain ⟨h0, h1, h2, h3, h4, hf, L, h5, hl⟩ := h
    have hg := World.block_lt_of_cell? w _ h0
    exact ⟨(q.cell (p := ⟨g, off, none⟩) hg).trans h0, (q.cell (p := ⟨g, off + 1, none⟩) hg).trans h1, (q.cell (p := ⟨g, off + 2, none⟩) hg).trans h2, (q.cell (p := ⟨g, off + 3, none⟩) hg).trans h3,
      (q.cell (p := ⟨g, off + 4, none⟩) hg).trans h4, hf, L, (q.cell (p := ⟨g, off + 5, none⟩) hg).trans h5, Held.below l hl q⟩
theorem Held.below {w w' : World} {L : Value} : (l : List Val) → Held w L l → Below w.heap.size w w' → Held w' L l
  | [], h, _ => by
    unfold Held at h ⊢
    exact h
  | v :: r, h, q => by
    unfold Held at h ⊢
    obtain ⟨g, off, cap, e, hv, hr⟩ := h
    exact ⟨g, off, cap, e, HoldsOne.below v hv q, Holds.below r hr q⟩
theorem Holds.below {w w' : World} {g off : Nat} : (l : List Val) → Holds w g off l → Below w.heap.size w w' → Holds w' g off l
  | [], _, _ => by
    unfold Holds
    trivial
  | v :: r, h, q => by
    unfold Holds at h ⊢
    exact ⟨HoldsOne.below v h.1 q, Holds.below r h.2 q⟩
end

mutual
/-- Whether a value may be that lies in d lists. -/
def mayP : Val → Nat → Bool
  | .mk k b n t x l, d => fitsP k b n t x l.length (decide (l.length ≤ 4096) && decide (d + 1 ≤ 60) && eachP l (d + 1))
def eachP : List Val → Nat → Bool
  | [], _ => true
  | v :: r, d => mayP v d && eachP r d
end
end Go.Proofs.YtoifjjgakblhhaaDoor
