/- What a call leaves alone: all blocks but those of the things that it was handed. -/
import Derived.Test.YtffbcccbhofbpaaDoorN6
import Derived.Test.YtffbcccbhofbpaaDoorShelf
import Derived.OwnWalk
import Derived.Maps.OwnSet
import Derived.Maps.AppendAt
namespace Go.Proofs.YtffbcccbhofbpaaDoor
open Go.RowKit

/-- But for the blocks in F, and new ones, the world w' is as w was. -/
structure Ch (F : Nat → Prop) (w w' : World) : Prop where
  os : w'.os = w.os
  tape : w'.tape = w.tape
  output : w'.output = w.output
  size : w.heap.size ≤ w'.heap.size
  block : ∀ k, k < w.heap.size → ¬ F k → w'.heap[k]? = w.heap[k]?

section
variable {F G : Nat → Prop} {w w' w2 : World}
theorem Ch.refl (F : Nat → Prop) (w : World) : Ch F w w := ⟨rfl, rfl, rfl, Nat.le_refl _, fun _ _ _ => rfl⟩
theorem Ch.mono (h : Ch F w w') (k : ∀ i, i < w.heap.size → F i → G i) : Ch G w w' :=
  ⟨h.os, h.tape, h.output, h.size, fun i hi n => h.block i hi fun f => n (k i hi f)⟩
theorem Ch.trans (h : Ch F w w') (k : Ch G w' w2) (s : ∀ i, i < w.heap.size → G i → F i) : Ch F w w2 :=
  ⟨k.os.trans h.os, k.tape.trans h.tape, k.output.trans h.output, Nat.le_trans h.size k.size, fun i hi n => (k.block i (Nat.lt_of_lt_of_le hi h.size) fun g => n (s i hi g)).trans (h.block i hi n)⟩
theorem Ch.of_below (h : Below w.heap.size w w') : Ch F w w' := ⟨h.os, h.tape, h.output, h.size, fun k hk _ => h.block k hk⟩
theorem Ch.below {B : Nat} (h : Ch F w w') (hB : B ≤ w.heap.size) (s : ∀ i, F i → B ≤ i) : Below B w w' :=
  ⟨h.os, h.tape, h.output, h.size, fun k hk => h.block k (by omega) fun f => by have := s k f; omega⟩
theorem Ch.alloc (h : Ch F w w') (o : Obj) : Ch F w (w'.alloc o) := h.trans (G := F) (Ch.of_below (below1 w' o)) fun _ _ g => g
theorem Ch.drewN (h : Ch F w w') (n : Nat) : Ch F w (w'.drewN n) := ⟨h.os, h.tape, h.output, h.size, h.block⟩
theorem Ch.setCell (h : Ch F w w') {a : Addr} (ha : F a.block ∨ w.heap.size ≤ a.block) (v : Value) : Ch F w (w'.setCell a v) :=
  ⟨h.os, h.tape, h.output, by simpa [World.setCell] using h.size, fun k hk n => (Below.heap_setCell _ _ _ _ (fun e => by rcases ha with f | g; exact n (e ▸ f); omega)).trans (h.block k hk n)⟩
theorem Ch.of_grown {row : Option Nat} (h : w.grownBy w' row) : Ch (fun i => row = some i) w w' :=
  ⟨h.os, h.tape, h.output, h.size, fun k hk n => h.block k hk fun e => n e.symm⟩
end

/-- A call on a thing that lies in the blocks F; behind it, it lies in F'. -/
structure Turn (F F' : Nat → Prop) (w w' : World) : Prop where
  ch : Ch F w w'
  foot : ∀ i, F' i → F i ∨ w.heap.size ≤ i

theorem row_keep {w w' : World} {e s : Nat} {v : Value} {n : Nat} {xs : List Value} (h : w.ownsRow 0 e s v n xs) (k : ∀ i, v.ownBlock = some i → w'.heap[i]? = w.heap[i]?) : w'.ownsRow 0 e s v n xs := by
  refine ⟨h.1, ?_⟩
  rcases h.2 with h0 | ⟨g, cap, cur, rfl, h1, h2, h3⟩
  · exact .inl h0
  · exact .inr ⟨g, cap, cur, rfl, h1, (k g rfl).trans h2, h3⟩
theorem row_lt {w : World} {e s : Nat} {v : Value} {n : Nat} {xs : List Value} (h : w.ownsRow 0 e s v n xs) {i : Nat} (hi : v.ownBlock = some i) : i < w.heap.size := by
  rcases h.2 with ⟨rfl, _⟩ | ⟨g, cap, cur, rfl, h1, h2, h3⟩
  · cases hi
  · cases hi; exact lt_of_heap h2
theorem row_not {w : World} {e s t : Nat} {v : Value} {n : Nat} {xs : List Value} {c : Array Value} (h : w.ownsRow 0 e s v n xs) {g : Nat} (hg : w.heap[g]? = some (.cells c t)) (ht : t ≠ e) : v.ownBlock ≠ some g := by
  intro hi
  rcases h.2 with ⟨rfl, _⟩ | ⟨g', cap, cur, rfl, h1, h2, h3⟩
  · cases hi
  · cases hi; rw [hg] at h2; cases h2; exact ht rfl
theorem row_notMap {w : World} {e s : Nat} {v : Value} {n : Nat} {xs : List Value} {c : Array MapEntry} {t : Nat} (h : w.ownsRow 0 e s v n xs) {g : Nat} (hg : w.heap[g]? = some (.map c t)) : v.ownBlock ≠ some g := by
  intro hi
  rcases h.2 with ⟨rfl, _⟩ | ⟨g', cap, cur, rfl, h1, h2, h3⟩
  · cases hi
  · cases hi; rw [hg] at h2; cases h2
theorem row_slice {w : World} {e s : Nat} {v : Value} {n : Nat} {xs : List Value} (h : w.ownsRow 0 e s v n xs) : ∃ p cap, v = .slice p n cap := by
  rcases h.2 with ⟨rfl, rfl⟩ | ⟨g, cap, cur, rfl, _⟩
  · exact ⟨_, _, rfl⟩
  · exact ⟨_, _, rfl⟩
theorem row_cell {w : World} {e : Nat} {v : Value} {n : Nat} {xs : List Value} (h : w.ownsRow 0 e 1 v n xs) (j : Nat) (hj : j < n) : ∃ g cap, v = .slice (some ⟨g, 0, none⟩) n cap ∧ n ≤ cap ∧ w.cell? ⟨g, j, none⟩ = xs[j]? := by
  obtain ⟨h0, h⟩ := h
  rcases h with ⟨rfl, rfl⟩ | ⟨g, cap, cur, rfl, h1, h2, h3, h4, h5, h6⟩
  · omega
  · refine ⟨g, cap, rfl, h3, ?_⟩
    have e1 : xs[j]? = cur[j]? := by rw [← h6, List.getElem?_take, if_pos (by omega)]; simp
    rw [e1]; simp [World.cell?, h2]
theorem map_keep {w w' : World} {k e b n : Nat} {D : DataW Unit} (h : w.ownsMap Tryd.prog k (plainElem Tryd.prog e) b n D) (q : w'.heap[b]? = w.heap[b]?) : w'.ownsMap Tryd.prog k (plainElem Tryd.prog e) b n D := by
  obtain ⟨es, clock, hb, r⟩ := h
  exact ⟨es, clock, q.trans hb, r⟩
theorem map_block {w : World} {k e b n : Nat} {D : DataW Unit} (h : w.ownsMap Tryd.prog k (plainElem Tryd.prog e) b n D) : ∃ es clock, w.heap[b]? = some (.map es clock) := by
  obtain ⟨es, clock, hb, r⟩ := h
  exact ⟨es, clock, hb⟩
end Go.Proofs.YtffbcccbhofbpaaDoor
