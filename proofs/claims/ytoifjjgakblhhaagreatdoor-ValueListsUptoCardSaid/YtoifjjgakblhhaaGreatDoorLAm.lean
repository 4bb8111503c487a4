/- Values in one another, in blocks of one's own: where they lie, said with the blocks that hold them; a row of values that one owns. -/
import Derived.Test.YtoifjjgakblhhaaGreatDoorGv
import Derived.Test.YtoifjjgakblhhaaGreatDoorGr
import Derived.Maps.AppendAt
namespace Go.Proofs.YtoifjjgakblhhaaGreatDoor
open Go.RowKit

mutual
/-- A value's six cells lie from off on; all lists in it lie in blocks of P. -/
def HoldsOneF (w : World) (P : Nat → Prop) (g off : Nat) : Val → Prop
  | .mk k b n t x l => w.cell? ⟨g, off, none⟩ = some (.int .i64 k) ∧ w.cell? ⟨g, off + 1, none⟩ = some (.bool b) ∧ w.cell? ⟨g, off + 2, none⟩ = some (.int .i64 n) ∧
    w.cell? ⟨g, off + 3, none⟩ = some (.string t) ∧ w.cell? ⟨g, off + 4, none⟩ = some (.string x) ∧ Fine n t x l.length ∧
    ∃ L, w.cell? ⟨g, off + 5, none⟩ = some L ∧ HeldF w P L l
/-- A slice whose elements are these, in blocks of P. -/
def HeldF (w : World) (P : Nat → Prop) (L : Value) : List Val → Prop
  | [] => ∃ p cap, L = .slice p 0 cap
  | v :: r => ∃ g off cap, L = .slice (some ⟨g, off, none⟩) (r.length + 1) cap ∧ P g ∧ HoldsOneF w P g off v ∧ HoldsF w P g (off + 6) r
/-- Values one behind the other from off on; all lists in them lie in blocks of P. -/
def HoldsF (w : World) (P : Nat → Prop) (g off : Nat) : List Val → Prop
  | [] => True
  | v :: r => HoldsOneF w P g off v ∧ HoldsF w P g (off + 6) r
end
mutual
theorem HoldsOneF.held {w : World} {P : Nat → Prop} {g off : Nat} : (v : Val) → HoldsOneF w P g off v → HoldsOne w g off v
  | .mk k b n t x l, h => by
    unfold HoldsOneF at h
    unfold HoldsOne
    obtain ⟨h0, h1, h2, h3, h4, hf, L, h5, hl⟩ := h
    exact ⟨h0, h1, h2, h3, h4, hf, L, h5, HeldF.held l hl⟩
theorem HeldF.held {w : World} {P : Nat → Prop} {L : Value} : (l : List Val) → HeldF w P L l → Held w L l
  | [], h => by
    unfold HeldF at h
    unfold Held
    exact h
  | v :: r, h => by
    unfold HeldF at h
    unfold Held
    obtain ⟨g, off, cap, e, _, hv, hr⟩ := h
    exact ⟨g, off, cap, e, HoldsOneF.held v hv, HoldsF.held r hr⟩
theorem HoldsF.held {w : World} {P : Nat → Prop} {g off : Nat} : (l : List Val) → HoldsF w P g off l → Holds w g off l
  | [], _ => by unfold Holds; trivial
  | v :: r, h => by
    unfold HoldsF at h
    unfold Holds
    exact ⟨HoldsOneF.held v h.1, HoldsF.held r h.2⟩
end
/-- All blocks of P are blocks of P', and are as they were. -/
def Stays (P P' : Nat → Prop) (w w' : World) : Prop := ∀ g, P g → P' g ∧ w'.heap[g]? = w.heap[g]?
theorem Stays.cell {P P' : Nat → Prop} {w w' : World} (h : Stays P P' w w') {g : Nat} (hg : P g) (o : Nat) {v : Value} (hv : w.cell? ⟨g, o, none⟩ = some v) : w'.cell? ⟨g, o, none⟩ = some v :=
  (World.cell?_of_block (w := w) (a := ⟨g, o, none⟩) (h g hg).2).trans hv
mutual
theorem HoldsOneF.stays {w w' : World} {P P' : Nat → Prop} {g off : Nat} (s : Stays P P' w w') (hg : P g) : (v : Val) → HoldsOneF w P g off v → HoldsOneF w' P' g off v
  | .mk k b n t x l, h => by
    unfold HoldsOneF at h ⊢
    obtain ⟨h0, h1, h2, h3, h4, hf, L, h5, hl⟩ := h
    exact ⟨s.cell hg _ h0, s.cell hg _ h1, s.cell hg _ h2, s.cell hg _ h3, s.cell hg _ h4, hf, L, s.cell hg _ h5, HeldF.stays s l hl⟩
theorem HeldF.stays {w w' : World} {P P' : Nat → Prop} {L : Value} (s : Stays P P' w w') : (l : List Val) → HeldF w P L l → HeldF w' P' L l
  | [], h => by
    unfold HeldF at h ⊢
    exact h
  | v :: r, h => by
    unfold HeldF at h ⊢
    obtain ⟨g, off, cap, e, hg, hv, hr⟩ := h
    exact ⟨g, off, cap, e, (s g hg).1, HoldsOneF.stays s hg v hv, HoldsF.stays s hg r hr⟩
theorem HoldsF.stays {w w' : World} {P P' : Nat → Prop} {g off : Nat} (s : Stays P P' w w') (hg : P g) : (l : List Val) → HoldsF w P g off l → HoldsF w' P' g off l
  | [], _ => by unfold HoldsF; trivial
  | v :: r, h => by
    unfold HoldsF at h ⊢
    exact ⟨HoldsOneF.stays s hg v h.1, HoldsF.stays s hg r h.2⟩
end
/-- Cells, six a value; all lists in them lie in blocks of P. -/
def CellsF (w : World) (P : Nat → Prop) : List Value → List Val → Prop
  | xs, [] => xs = []
  | xs, .mk k b n t x q :: r => ∃ L ys, xs = .int .i64 k :: .bool b :: .int .i64 n :: .string t :: .string x :: L :: ys ∧ Fine n t x q.length ∧ HeldF w P L q ∧ CellsF w P ys r
theorem CellsF.append {w : World} {P : Nat → Prop} : {xs ys : List Value} → (l r : List Val) → CellsF w P xs l → CellsF w P ys r → CellsF w P (xs ++ ys) (l ++ r)
  | _, _, [], _, h, g => by
    unfold CellsF at h
    subst h
    exact g
  | _, _, .mk k b n t x q :: l, r, h, g => by
    unfold CellsF at h
    obtain ⟨L, zs, rfl, hf, hq, hr⟩ := h
    show CellsF w P _ (.mk k b n t x q :: (l ++ r))
    unfold CellsF
    exact ⟨L, _, rfl, hf, hq, CellsF.append l r hr g⟩
theorem CellsF.stays {w w' : World} {P P' : Nat → Prop} (s : Stays P P' w w') : {xs : List Value} → (l : List Val) → CellsF w P xs l → CellsF w' P' xs l
  | _, [], h => by unfold CellsF at h ⊢; exact h
  | _, .mk k b n t x q :: l, h => by
    unfold CellsF at h ⊢
    obtain ⟨L, zs, rfl, hf, hq, hr⟩ := h
    exact ⟨L, zs, rfl, hf, HeldF.stays s q hq, CellsF.stays s l hr⟩
theorem CellsF.one {w : World} {P : Nat → Prop} {k : Int} {b : Bool} {n : Int} {t x : ByteArray} {q : List Val} {L : Value} (hf : Fine n t x q.length) (hq : HeldF w P L q) : CellsF w P [.int .i64 k, .bool b, .int .i64 n, .string t, .string x, L] [.mk k b n t x q] := by
  unfold CellsF
  exact ⟨L, [], rfl, hf, hq, by unfold CellsF; rfl⟩
theorem CellsF.cells1 {w : World} {P : Nat → Prop} : {xs : List Value} → (l : List Val) → CellsF w P xs l → ∀ u ∈ xs, u.oneCell' = true
  | _, [], h, u, hu => by
    unfold CellsF at h
    subst h
    cases hu
  | _, .mk k b n t x q :: l, h, u, hu => by
    unfold CellsF at h
    obtain ⟨L, zs, rfl, hf, hq, hr⟩ := h
    obtain ⟨p, cap, rfl⟩ := held_slice (HeldF.held q hq)
    simp only [List.mem_cons] at hu
    rcases hu with rfl | rfl | rfl | rfl | rfl | rfl | hu
    all_goals first | rfl | exact CellsF.cells1 l hr u hu
theorem CellsF.holds {w : World} {P : Nat → Prop} {g : Nat} : {xs : List Value} → (l : List Val) → (off : Nat) → CellsF w P xs l → (∀ (j : Nat) u, xs[j]? = some u → w.cell? ⟨g, off + j, none⟩ = some u) → HoldsF w P g off l
  | _, [], _, _, _ => by unfold HoldsF; trivial
  | _, .mk k b n t x q :: l, off, h, hc => by
    unfold CellsF at h
    obtain ⟨L, zs, rfl, hf, hq, hr⟩ := h
    unfold HoldsF HoldsOneF
    refine ⟨⟨hc 0 _ rfl, hc 1 _ rfl, hc 2 _ rfl, hc 3 _ rfl, hc 4 _ rfl, hf, L, hc 5 _ rfl, hq⟩, CellsF.holds l (off + 6) hr fun j u hj => ?_⟩
    have := hc (j + 6) u hj
    rw [show off + 6 + j = off + (j + 6) by omega]
    exact this
/-- A row that one owns, of these values, whose lists lie elsewhere, in blocks of P: it is held. -/
theorem heldF_of_own {w : World} {base : Nat} {P P' : Nat → Prop} {V : Value} {xs : List Value} {l : List Val} (h : w.ownsRow base 28 6 V l.length xs) (c : CellsF w P xs l) (s : ∀ g, P g → P' g) (hP : ∀ g, V.ownBlock = some g → P' g) : HeldF w P' V l := by
  have c' : CellsF w P' xs l := c.stays (fun g hg => ⟨s g hg, rfl⟩) l
  rcases h.2 with ⟨rfl, hn⟩ | ⟨g, cap, cur, rfl, hb, hg, hcap, _, hsz, htk⟩
  · obtain rfl := List.length_eq_zero_iff.1 hn
    unfold HeldF
    exact ⟨none, 0, rfl⟩
  · have hh : HoldsF w P' g 0 l := c'.holds l 0 fun j u hj => by
      have e : cur[j]? = some u := by
        rw [← htk, List.getElem?_take] at hj
        split at hj
        · rw [← Array.getElem?_toList]; exact hj
        · cases hj
      rw [Nat.zero_add]
      exact cell_of hg j e
    cases l with
    | nil =>
      unfold HeldF
      exact ⟨_, cap, rfl⟩
    | cons v r =>
      unfold HoldsF at hh
      unfold HeldF
      exact ⟨g, 0, cap, rfl, hP g rfl, hh.1, hh.2⟩
end Go.Proofs.YtoifjjgakblhhaaGreatDoor
