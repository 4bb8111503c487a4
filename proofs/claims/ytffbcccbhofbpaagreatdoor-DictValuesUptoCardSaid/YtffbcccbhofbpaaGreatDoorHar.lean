/- Texts of one kind, one behind the other: each says ahead of itself what it shows. -/
import Derived.Test.YtffbcccbhofbpaaGreatDoorHaj
import Derived.Maps.AppendAt
import Derived.WalkKit
import Derived.OwnWalk
import Derived.Deep.LoopGhost
import Derived.Laws.AppendOwnNone
import Derived.Deep.MidRow
/- Values in one another, in blocks of one's own: where they lie, said with the blocks that hold them; a row of values that one owns. -/
namespace Go.Proofs.YtffbcccbhofbpaaGreatDoor
open Go.RowKit

mutual
/-- A value's six cells lie from off on; all lists in it lie in blocks of P. -/
def HoldsOneF (w : World) (P : Nat → Prop) (g off : Nat) : Val → Prop
  | .mk k b n t x l => w.cell? ⟨g, off, none⟩ = some (.int .i64 k) ∧ w.cell? ⟨g, off + 1, none⟩ = some (.bool b) ∧ w.cell? ⟨g, off + 2, none⟩ = some (.int .i64 n) ∧
    w.cell? ⟨g, off + 3, none⟩ = some (.string t) ∧ w.cell? ⟨g, off + 4, none⟩ = some (.string x) ∧ Fine n t x l.length ∧
    ∃ L, w.cell? ⟨g, off + 5, none⟩ = some L ∧ HeldF w P L l
/-- A slice whose elements are these, in blocks of P. -/
def HeldF (w : World) (P : Nat → Prop) (L : Value) : List Val → Prop
  | [] => ∃ p cap, L = .slice p 0 cap
  | v :: r => ∃ g off cap, L = .slice (some ⟨g, off, none⟩) (r.length + 1) cap ∧ P g ∧ HoldsOneF w P g off v ∧ HoldsF w P g (off + 6) r
/-- Values one behind the other from off on; all lists in them lie in blocks of P. -/
def HoldsF (w : World) (P : Nat → Prop) (g off : Nat) : List Val → Prop
  | [] => True
  | v :: r => HoldsOneF w P g off v ∧ HoldsF w P g (off + 6) r
end
mutual
theorem HoldsOneF.held {w : World} {P : Nat → Prop} {g off : Nat} : (v : Val) → HoldsOneF w P g off v → HoldsOne w g off v
  | .mk k b n t x l, h => by
    unfold HoldsOneF at h
    unfold HoldsOne
    obtain ⟨h0, h1, h2, h3, h4, hf, L, h5, hl⟩ := h
    exact ⟨h0, h1, h2, h3, h4, hf, L, h5, HeldF.held l hl⟩
theorem HeldF.held {w : World} {P : Nat → Prop} {L : Value} : (l : List Val) → HeldF w P L l → Held w L l
  | [], h => by
    unfold HeldF at h
    unfold Held
    exact h
  | v :: r, h => by
    unfold HeldF at h
    unfold Held
    obtain ⟨g, off, cap, e, _, hv, hr⟩ := h
    exact ⟨g, off, cap, e, HoldsOneF.held v hv, HoldsF.held r hr⟩
theorem HoldsF.held {w : World} {P : Nat → Prop} {g off : Nat} : (l : List Val) → HoldsF w P g off l → Holds w g off l
  | [], _ => by unfold Holds; trivial
  | v :: r, h => by
    unfold HoldsF at h
    unfold Holds
    exact ⟨HoldsOneF.held v h.1, HoldsF.held r h.2⟩
end
/-- All blocks of P are blocks of P', and are as they were. -/
def Stays (P P' : Nat → Prop) (w w' : World) : Prop := ∀ g, P g → P' g ∧ w'.heap[g]? = w.heap[g]?
theorem Stays.cell {P P' : Nat → Prop} {w w' : World} (h : Stays P P' w w') {g : Nat} (hg : P g) (o : Nat) {v : Value} (hv : w.cell? ⟨g, o, none⟩ = some v) : w'.cell? ⟨g, o, none⟩ = some v :=
  (World.cell?_of_block (w := w) (a := ⟨g, o, none⟩) (h g hg).2).trans hv
mutual
theorem HoldsOneF.stays {w w' : World} {P P' : Nat → Prop} {g off : Nat} (s : Stays P P' w w') (hg : P g) : (v : Val) → HoldsOneF w P g off v → HoldsOneF w' P' g off v
  | .mk k b n t x l, h => by
    unfold HoldsOneF at h ⊢
    obtain ⟨h0, h1, h2, h3, h4, hf, L, h5, hl⟩ := h
    exact ⟨s.cell hg _ h0, s.cell hg _ h1, s.cell hg _ h2, s.cell hg _ h3, s.cell hg _ h4, hf, L, s.cell hg _ h5, HeldF.stays s l hl⟩
theorem HeldF.stays {w w' : World} {P P' : Nat → Prop} {L : Value} (s : Stays P P' w w') : (l : List Val) → HeldF w P L l → HeldF w' P' L l
  | [], h => by
    unfold HeldF at h ⊢
    exact h
  | v :: r, h => by
    unfold HeldF at h ⊢
    obtain ⟨g, off, cap, e, hg, hv, hr⟩ := h
    exact ⟨g, off, cap, e, (s g hg).1, HoldsOneF.stays s hg v hv, HoldsF.stays s hg r hr⟩
theorem HoldsF.stays {w w' : World} {P P' : Nat → Prop} {g off : Nat} (s : Stays P P' w w') (hg : P g) : (l : List Val) → HoldsF w P g off l → HoldsF w' P' g off l
  | [], _ => by unfold HoldsF; trivial
  | v :: r, h => by
    unfold HoldsF at h ⊢
    exact ⟨HoldsOneF.stays s hg v h.1, HoldsF.stays s hg r h.2⟩
end
/-- Cells, six a value; all lists in them lie in blocks of P. -/
def CellsF (w : World) (P : Nat → Prop) : List Value → List Val → Prop
  | xs, [] => xs = []
  | xs, .mk k b n t x q :: r => ∃ L ys, xs = .int .i64 k :: .bool b :: .int .i64 n :: .string t :: .string x :: L :: ys ∧ Fine n t x q.length ∧ HeldF w P L q ∧ CellsF w P ys r
theorem CellsF.append {w : World} {P : Nat → Prop} : {xs ys : List Value} → (l r : List Val) → CellsF w P xs l → CellsF w P ys r → CellsF w P (xs ++ ys) (l ++ r)
  | _, _, [], _, h, g => by
    unfold CellsF at h
    subst h
    exact g
  | _, _, .mk k b n t x q :: l, r, h, g => by
    unfold CellsF at h
    obtain ⟨L, zs, rfl, hf, hq, hr⟩ := h
    show CellsF w P _ (.mk k b n t x q :: (l ++ r))
    unfold CellsF
    exact ⟨L, _, rfl, hf, hq, CellsF.append l r hr g⟩
theorem CellsF.stays {w w' : World} {P P' : Nat → Prop} (s : Stays P P' w w') : {xs : List Value} → (l : List Val) → CellsF w P xs l → CellsF w' P' xs l
  | _, [], h => by unfold CellsF at h ⊢; exact h
  | _, .mk k b n t x q :: l, h => by
    unfold CellsF at h ⊢
    obtain ⟨L, zs, rfl, hf, hq, hr⟩ := h
    exact ⟨L, zs, rfl, hf, HeldF.stays s q hq, CellsF.stays s l hr⟩
theorem CellsF.one {w : World} {P : Nat → Prop} {k : Int} {b : Bool} {n : Int} {t x : ByteArray} {q : List Val} {L : Value} (hf : Fine n t x q.length) (hq : HeldF w P L q) : CellsF w P [.int .i64 k, .bool b, .int .i64 n, .string t, .string x, L] [.mk k b n t x q] := by
  unfold CellsF
  exact ⟨L, [], rfl, hf, hq, by unfold CellsF; rfl⟩
theorem CellsF.cells1 {w : World} {P : Nat → Prop} : {xs : List Value} → (l : List Val) → CellsF w P xs l → ∀ u ∈ xs, u.oneCell' = true
  | _, [], h, u, hu => by
    unfold CellsF at h
    subst h
    cases hu
  | _, .mk k b n t x q :: l, h, u, hu => by
    unfold CellsF at h
    obtain ⟨L, zs, rfl, hf, hq, hr⟩ := h
    obtain ⟨p, cap, rfl⟩ := held_slice (HeldF.held q hq)
    simp only [List.mem_cons] at hu
    rcases hu with rfl | rfl | rfl | rfl | rfl | rfl | hu
    all_goals first | rfl | exact CellsF.cells1 l hr u hu
theorem CellsF.holds {w : World} {P : Nat → Prop} {g : Nat} : {xs : List Value} → (l : List Val) → (off : Nat) → CellsF w P xs l → (∀ (j : Nat) u, xs[j]? = some u → w.cell? ⟨g, off + j, none⟩ = some u) → HoldsF w P g off l
  | _, [], _, _, _ => by unfold HoldsF; trivial
  | _, .mk k b n t x q :: l, off, h, hc => by
    unfold CellsF at h
    obtain ⟨L, zs, rfl, hf, hq, hr⟩ := h
    unfold HoldsF HoldsOneF
    refine ⟨⟨hc 0 _ rfl, hc 1 _ rfl, hc 2 _ rfl, hc 3 _ rfl, hc 4 _ rfl, hf, L, hc 5 _ rfl, hq⟩, CellsF.holds l (off + 6) hr fun j u hj => ?_⟩
    have := hc (j + 6) u hj
    rw [show off + 6 + j = off + (j + 6) by omega]
    exact this
/-- A row that one owns, of these values, whose lists lie elsewhere, in blocks of P: it is held. -/
theorem heldF_of_own {w : World} {base : Nat} {P P' : Nat → Prop} {V : Value} {xs : List Value} {l : List Val} (h : w.ownsRow base 31 6 V l.length xs) (c : CellsF w P xs l) (s : ∀ g, P g → P' g) (hP : ∀ g, V.ownBlock = some g → P' g) : HeldF w P' V l := by
  have c' : CellsF w P' xs l := c.stays (fun g hg => ⟨s g hg, rfl⟩) l
  rcases h.2 with ⟨rfl, hn⟩ | ⟨g, cap, cur, rfl, hb, hg, hcap, _, hsz, htk⟩
  · obtain rfl := List.length_eq_zero_iff.1 hn
    unfold HeldF
    exact ⟨none, 0, rfl⟩
  · have hh : HoldsF w P' g 0 l := c'.holds l 0 fun j u hj => by
      have e : cur[j]? = some u := by
        rw [← htk, List.getElem?_take] at hj
        split at hj
        · rw [← Array.getElem?_toList]; exact hj
        · cases hj
      rw [Nat.zero_add]
      exact cell_of hg j e
    cases l with
    | nil =>
      unfold HeldF
      exact ⟨_, cap, rfl⟩
    | cons v r =>
      unfold HoldsF at hh
      unfold HeldF
      exact ⟨g, 0, cap, rfl, hP g rfl, hh.1, hh.2⟩
end Go.Proofs.YtffbcccbhofbpaaGreatDoor

/- (nothing of its own) -/

/- A list of values copied: none of it lies where the old one lay. -/
namespace Go.Proofs.YtffbcccbhofbpaaGreatDoor
open Go.RowKit

/-- What copyList tells: the same values, in blocks of its own. -/
def CopyPost (w : World) (q : List Val) (e : Ending) (w' : World) : Prop := ∃ V xs, e = .returned V ∧ w'.ownsRow w.heap.size 31 6 V q.length xs ∧ CellsF w' (fun g => w.heap.size ≤ g ∧ g < w'.heap.size ∧ V.ownBlock ≠ some g) xs q ∧ Below w.heap.size w w'
/-- What a round keeps. -/
structure Acc (w : World) (l : List Val) (A : Value) (wr : World) : Prop where
  own : ∃ xs, wr.ownsRow w.heap.size 31 6 A l.length xs ∧ CellsF wr (fun g => w.heap.size ≤ g ∧ g < wr.heap.size ∧ A.ownBlock ≠ some g) xs l
  bel : Below w.heap.size w wr
theorem own_below {w w' : World} {base : Nat} {e : TypeId} {size : Nat} {v : Value} {n : Nat} {xs : List Value} (h : w.ownsRow base e size v n xs) (b : Below w.heap.size w w') : w'.ownsRow base e size v n xs := by
  refine ⟨h.1, ?_⟩
  rcases h.2 with h0 | ⟨g, cap, cur, e1, h1, h2, h3⟩
  · exact .inl h0
  · exact .inr ⟨g, cap, cur, e1, h1, (b.block g (lt_of_heap h2)).trans h2, h3⟩
theorem info28b : (Tryz.prog.info? 31).map (fun i => (i.zero, i.size, i.bytes)) = some (some (.agg #[.int .i64 0, .bool false, .int .i64 0, .string ⟨#[]⟩, .string ⟨#[]⟩, .slice none 0 0]), 6, 80) := by kernel_rfl
theorem cell_six_new (w : World) (a b c d e f : Value) (t : TypeId) : ∀ j u, [a, b, c, d, e, f][j]? = some u → (w.alloc (.cells #[a, b, c, d, e, f] t)).cell? ((⟨w.heap.size, 0, none⟩ : Addr).add j) = some u := by
  intro j u hj
  rw [Addr.add_mid, Nat.zero_add]
  exact cell_of (heap_new w _ rfl) j (by simpa using hj)
/-- The round's end: one value more. -/
theorem Acc.next {w wr wf w1 : World} {l : List Val} {A A2 : Value} {xs : List Value} {k : Int} {b : Bool} {n : Int} {t x : ByteArray} {q : List Val} {V : Value} {e : Nat} {o : Obj} (he : e = wr.heap.size)
    (hx : wr.ownsRow w.heap.size 31 6 A l.length xs) (hc : CellsF wr (fun g => w.heap.size ≤ g ∧ g < wr.heap.size ∧ A.ownBlock ≠ some g) xs l) (hbel : Below w.heap.size w wr)
    (bf : Below wr.heap.size wr wf) (hf : Fine n t x q.length) (hq : HeldF wf (fun g => e < g ∧ g < wf.heap.size) V q)
    (hown : w1.ownsRow w.heap.size 31 6 A2 (l.length + 1) (xs ++ [.int .i64 k, .bool b, .int .i64 n, .string t, .string x, V])) (hgrow : (wf.alloc o).grownBy w1 A.ownBlock) (hloc : A2.ownBlock = A.ownBlock ∨ A2.ownBlock = some (wf.heap.size + 1)) :
    Acc w (l ++ [.mk k b n t x q]) A2 w1 := by
  have hA : ∀ g, A.ownBlock = some g → g < wr.heap.size := fun g hg => (hx.lt g hg).2
  have s1 : (wf.alloc o).heap.size = wf.heap.size + 1 := by simp
  have s2 : wr.heap.size ≤ wf.heap.size := bf.size
  have s3 : (wf.alloc o).heap.size ≤ w1.heap.size := hgrow.size
  have s0 : w.heap.size ≤ wr.heap.size := hbel.size
  have hn2 : ∀ g, g < wf.heap.size → A.ownBlock ≠ some g → A2.ownBlock ≠ some g := fun g hg hne h => by
    rcases hloc with h2 | h2
    · exact hne (h2 ▸ h)
    · rw [h2] at h
      have := Option.some.inj h
      omega
  have keep : ∀ g, g < wf.heap.size → A.ownBlock ≠ some g → w1.heap[g]? = wf.heap[g]? := fun g hg hne => by
    rw [hgrow.block g (by omega) (fun h => hne h.symm)]
    exact Below.heap_alloc _ _ _ hg
  refine ⟨⟨_, by rw [List.length_append]; exact hown, ?_⟩, (hbel.trans (bf.mono s0) |>.alloc (by omega) o).grown hgrow (by omega) (fun g hg => (hx.lt g hg).1)⟩
  refine CellsF.append l _ (hc.stays (fun g hg => ⟨⟨hg.1, by omega, hn2 g (by omega) hg.2.2⟩, ?_⟩) l) (CellsF.one hf (hq.stays (fun g hg => ?_) q))
  · rw [keep g (by omega) hg.2.2]
    exact bf.block g hg.2.1
  · have hne : A.ownBlock ≠ some g := fun h => by have := hA g h; omega
    exact ⟨⟨by omega, by omega, hn2 g hg.2 hne⟩, keep g hg.2 hne⟩

end Go.Proofs.YtffbcccbhofbpaaGreatDoor

/- Two lists, one behind the other: joinLists. -/
namespace Go.Proofs.YtffbcccbhofbpaaGreatDoor
open Go.RowKit

theorem results_six_tmp {fn : Func} {p q : Tmp} (h : fn.results = #[.cell p 31, .tmp q]) (tmps : Array Value) {w : World} {g : Nat} {k : Int} {b : Bool} {n : Int} {t x : ByteArray} {pp : Option Addr} {len cap : Nat} (v : Value)
    (hp : tmps.getD p undef = .pointer (some ⟨g, 0, none⟩)) (hq : tmps.getD q undef = v) (hg : Six w g k b n t x pp len cap) : (results fn tmps).run Tryz.prog w = .ok (.tuple #[.agg #[.int .i64 k, .bool b, .int .i64 n, .string t, .string x, .slice pp len cap], v]) w := by
  have hp' : tmps[p]?.getD undef = .pointer (some ⟨g, 0, none⟩) := by simpa using hp
  have hq' : tmps[q]?.getD undef = v := by simpa using hq
  have hl := run_loadVar_row (P := Tryz.prog) w g 31 31 _ (0, 0) _ hg Tryz.underlying31 rfl info28
  simp [results, h, hp', hq', asAddr, hl]
/-- What joinLists tells. -/
def JoinPost (w : World) (la lb : List Val) (e : Ending) (w' : World) : Prop := ∃ p c, e = .returned (.tuple #[.agg #[.int .i64 5, .bool false, .int .i64 0, .string ⟨#[]⟩, .string ⟨#[]⟩, .slice p (la.length + lb.length) c], .int .i64 0]) ∧
  HeldF w' (fun g => w.heap.size ≤ g ∧ g < w'.heap.size) (.slice p (la.length + lb.length) c) (la ++ lb) ∧ Below w.heap.size w w'
theorem joinHeld {w W0 w1 w2 w3 : World} {la lb : List Val} {V1 V2 V3 : Value} {xs1 xs2 : List Value} (z0 : W0.heap.size = w.heap.size + 1) (hb1 : Below W0.heap.size W0 w1) (hb2 : Below w1.heap.size w1 w2)
    (hv1 : w1.ownsRow W0.heap.size 31 6 V1 la.length xs1) (hc1 : CellsF w1 (fun g => W0.heap.size ≤ g ∧ g < w1.heap.size ∧ V1.ownBlock ≠ some g) xs1 la)
    (hc2 : CellsF w2 (fun g => w1.heap.size ≤ g ∧ g < w2.heap.size ∧ V2.ownBlock ≠ some g) xs2 lb)
    (hown : w3.ownsRow W0.heap.size 31 6 V3 (la.length + lb.length) (xs1 ++ xs2)) (hgrow : w2.grownBy w3 V1.ownBlock) :
    HeldF w3 (fun g => w.heap.size < g ∧ g < w3.heap.size) V3 (la ++ lb) := by
  have s1 := hb1.size
  have s2 := hb2.size
  have s3 : w2.heap.size ≤ w3.heap.size := hgrow.size
  refine heldF_of_own (P := fun g => w.heap.size < g ∧ g < w3.heap.size) (by rw [List.length_append]; exact hown) (CellsF.append la lb (hc1.stays (fun g hg => ⟨⟨by omega, by omega⟩, ?_⟩) la) (hc2.stays (fun g hg => ⟨⟨by omega, by omega⟩, ?_⟩) lb)) (fun _ h => h) (fun g hg => ⟨by have := (hown.lt g hg).1; omega, (hown.lt g hg).2⟩)
  · exact (hgrow.block g (by omega) (fun h => hg.2.2 h.symm)).trans (hb2.block g hg.2.1)
  · exact hgrow.block g hg.2.1 (fun h => by have := (hv1.lt g h.symm).2; omega)

end Go.Proofs.YtffbcccbhofbpaaGreatDoor

/- The copies that the document's own text makes of values. -/
namespace Go.Proofs.YtffbcccbhofbpaaGreatDoor
open Go.RowKit

theorem results_sixA {fn : Func} {p : Tmp} (h : fn.results = #[.cell p 31]) (tmps : Array Value) {w : World} {g : Nat} {k : Int} {b : Bool} {n : Int} {t x : ByteArray} {pp : Option Addr} {len cap : Nat}
    (hp : tmps.getD p undef = .pointer (some ⟨g, 0, none⟩)) (hg : Six w g k b n t x pp len cap) : (results fn tmps).run Tryz.prog w = .ok (.agg #[.int .i64 k, .bool b, .int .i64 n, .string t, .string x, .slice pp len cap]) w := by
  have hp' : tmps[p]?.getD undef = .pointer (some ⟨g, 0, none⟩) := by simpa using hp
  have hl := run_loadVar_row (P := Tryz.prog) w g 31 31 _ (0, 0) _ hg Tryz.underlying31 rfl info28
  simp [results, h, hp', asAddr, hl]
/-- What CopyValue tells: the same cells, and a list of new blocks. -/
def RValPost (w : World) (k : Int) (b : Bool) (n : Int) (t x : ByteArray) (q : List Val) (e : Ending) (w' : World) : Prop :=
  ∃ p c, e = .returned (.agg #[.int .i64 k, .bool b, .int .i64 n, .string t, .string x, .slice p q.length c]) ∧ HeldF w' (fun g => w.heap.size < g ∧ g < w'.heap.size) (.slice p q.length c) q ∧ Below w.heap.size w w'
def RCopyV (v : Val) : Prop := ∀ (W : World) (k : Int) (b : Bool) (n : Int) (t x : ByteArray) (q : List Val) (p : Option Addr) (cap : Nat), v = .mk k b n t x q → q.length ≤ 2097152 → Held W (.slice p q.length cap) q →
  Calls Tryz.prog 23 #[.slice p q.length cap] W (CopyPost W q)

set_option maxRecDepth 20000 in
set_option maxHeartbeats 3200000 in
theorem rcopyValue (k : Int) (b : Bool) (n : Int) (t x : ByteArray) (q : List Val) (p : Option Addr) (cap : Nat) (w : World) (hc : ∀ W, Below w.heap.size w W → Calls Tryz.prog 23 #[.slice p q.length cap] W (CopyPost W q)) :
    Calls Tryz.prog 7 #[.agg #[.int .i64 k, .bool b, .int .i64 n, .string t, .string x, .slice p q.length cap]] w (RValPost w k b n t x q) := by
  obtain ⟨W0, hW0⟩ : ∃ W0, W0 = (w.alloc (.cells #[.int .i64 k, .bool b, .int .i64 n, .string t, .string x, .slice p q.length cap] 31)).alloc (.cells #[.int .i64 0, .bool false, .int .i64 0, .string ⟨#[]⟩, .string ⟨#[]⟩, .slice none 0 0] 31) := ⟨_, rfl⟩
  have S1 : Six W0 w.heap.size k b n t x p q.length cap := by rw [hW0]; exact (six_new _ rfl).alloc _
  have S2 : Six W0 (w.heap.size + 1) 0 false 0 ⟨#[]⟩ ⟨#[]⟩ none 0 0 := by rw [hW0]; exact six_new _ (by simp)
  have b0 : Below w.heap.size w W0 := by rw [hW0]; exact (below1 _ _).alloc (by simp) _
  have z0 : W0.heap.size = w.heap.size + 2 := by rw [hW0]; simp
  have c5 := S1.c5
  have H0 := Lib.hid hW0
  have HZ := Lib.hid z0
  clear hW0 z0
  go_enter Tryz.func7, Tryz.ntmps7
  go_wp2_with (first
    | (go_at_call 23; rw [← H0.out]; (with_reducible refine (hc _ b0).mono ?_); rintro e w2 ⟨V, ys, rfl, hv, hcs, hb2⟩
       have hq2 : HeldF w2 (fun g => w.heap.size + 1 < g ∧ g < w2.heap.size) V q := heldF_of_own hv hcs (fun g hg => ⟨by have := hg.1; have := HZ.out; omega, hg.2.1⟩) (fun g hg => ⟨by have := (hv.lt g hg).1; have := HZ.out; omega, (hv.lt g hg).2⟩)
       obtain ⟨p2, c2, rfl⟩ := held_slice hq2.held
       have T1 := S1.below hb2; have T2 := S2.below hb2; have b2 := below_any b0 hb2 b0.size; have c5 := T1.c5; have f5 := T1.free 5
       have HQ := Lib.hid hq2; clear hq2 hv hcs hb2 S1 S2 b0)
    | ((with_reducible refine wpList_load6 (.tmp 1) w.heap.size (T1.set5 p2 q.length c2) ?_ ?_ ?_ ?_); rfl; rfl; rfl)
    | ((with_reducible refine wpList_store6 (k' := k) (b' := b) (n' := n) (t' := t) (x' := x) (p' := p2) (len' := q.length) (cap' := c2) (.tmp 2) (.tmp 7) (w.heap.size + 1) (Six.only T2 (Only.refl w.heap.size _ |>.setCell 5 none _) (by omega)) ?_ ?_ ?_ ?_ ?_); rfl; rfl; rfl; rfl; intro w9 on9 S9))
  have on5 : Only w.heap.size w2 (w2.setCell ⟨w.heap.size, 5, none⟩ (.slice p2 q.length c2)) := (Only.refl w.heap.size w2).setCell 5 none _
  have s5 := on5.size
  have s9 := on9.size
  have b5 : Below w.heap.size w (w2.setCell ⟨w.heap.size, 5, none⟩ (.slice p2 q.length c2)) := below_only b2 on5 (Nat.le_refl _) b2.size
  refine bodyPost_ret (results_sixA (p := 2) Tryz.results7 _ rfl S9) rfl ⟨p2, c2, rfl, ?_, below_only b5 on9 (by omega) b5.size⟩
  exact HQ.out.stays (P' := fun g => w.heap.size < g ∧ g < w9.heap.size) (fun g hg => ⟨⟨by omega, by omega⟩, (on9.block g (by omega) (by omega)).trans (on5.block g (by omega) (by omega))⟩) q
set_option maxRecDepth 20000 in
set_option maxHeartbeats 6400000 in
theorem rcopySome (l : List Val) (g off cap : Nat) (w : World) (hl : Holds w g off l) (hn : l.length ≤ 2097152) (each : ∀ v ∈ l, RCopyV v) :
    Calls Tryz.prog 23 #[.slice (some ⟨g, off, none⟩) l.length cap] w (CopyPost w l) := by
  obtain ⟨n, hln⟩ : ∃ n, n = l.length := ⟨_, rfl⟩
  rw [← hln] at hn ⊢
  obtain ⟨i0, hi, hz0, hz1, hz2⟩ := info_parts info28b
  have HL := Lib.hid hln
  have HH := Lib.hid hl
  have HE := Lib.hid each
  clear hl hln each
  go_enter Tryz.func23, Tryz.ntmps23
  go_wp2_with fail
  go_loopg [3, 4] n (fun gg s3 s4 wr => ∃ j : Nat, j + gg = n ∧ s4 = .int .i64 j ∧ Hid (Acc w (l.take j) s3 wr))
  case atStart => exact ⟨0, by omega, rfl, Lib.hid ⟨⟨[], by simpa using World.ownsRow_nil w w.heap.size 31 6, by unfold CellsF; rfl⟩, Below.refl _ _⟩⟩
  case round =>
    obtain ⟨j, hjg, rfl, HA⟩ := hrel
    by_cases hlt : (j : Int) < n
    · have hj1 : j < l.length := by have := HL.out; omega
      obtain ⟨k, b, m, t, x, q, p, cp, o1⟩ := ((Holds.at_ l off HH.out j hj1).below _ HA.out.bel).opens
      have hcp : Calls Tryz.prog 7 #[.agg #[.int .i64 k, .bool b, .int .i64 m, .string t, .string x, .slice p q.length cp]] wr (RValPost wr k b m t x q) :=
        rcopyValue k b m t x q p cp wr fun W h => HE.out l[j] (List.getElem_mem hj1) W k b m t x q p cp o1.e o1.hf.hn (Held.below q o1.hl h)
      unfold RValPost at hcp
      have HF := Lib.hid o1.hf
      have HV := Lib.hid o1.e
      have hjl : (l.take j).length = j := by rw [List.length_take]; omega
      have c0 := o1.c0
      have c1 := o1.c1
      have c2 := o1.c2
      have c3 := o1.c3
      have c4 := o1.c4
      have c5 := o1.c5
      clear o1
      go_wp2_with (first
        | ((with_reducible refine wpList_loadMid6 (.tmp 14) g (off + j * 6) k b m t x _ c0 c1 c2 c3 c4 c5 ?_ ?_ ?_ ?_); rfl; rfl; rfl)
        | (go_at_call 7; (with_reducible refine hcp.mono ?_); rintro e wf ⟨p5, k5, rfl, hq0, bf0⟩
           obtain ⟨⟨xs, hown, hcs⟩, hbel⟩ := HA.out
           have hownX := own_below hown bf0
           have hbs := hbel.size
           have hfs := bf0.size
           have HX := Lib.hid (And.intro hown (And.intro hcs (And.intro hbel (And.intro bf0 hq0))))
           clear hown hcs hbel bf0 hq0 HA c0 c1 c2 c3 c4 c5 hcp)
        | (at_builtin; refine wpList_append_own_at _ rfl _ _ 22 rfl w.heap.size 31 i0 (.agg #[.int .i64 0, .bool false, .int .i64 0, .string ⟨#[]⟩, .string ⟨#[]⟩, .slice none 0 0]) 6 80 Tryz.underlying22 hi hz0 hz1 hz2 rfl (by decide) _ _ _ rfl (hownX.alloc _) ⟨wf.heap.size, 0, none⟩ 1 1 [.int .i64 k, .bool b, .int .i64 m, .string t, .string x, .slice p5 q.length k5] rfl rfl (cell_six_new _ _ _ _ _ _ _ _) ?_ ?_ ?_ ?_ ?_))
      all_goals (try (first | (rw [hjl]; unfold maxLen; omega) | (rw [hjl]; omega) | (simp; omega) | (intro u hu; simp only [List.mem_cons, List.mem_nil_iff, or_false] at hu; rcases hu with rfl | rfl | rfl | rfl | rfl | rfl <;> rfl)))
      intro v' w1 hown' hgrow _ hloc
      have acc := Acc.next (k := k) (b := b) (n := m) (t := t) (x := x) (q := q) rfl HX.out.1 HX.out.2.1 HX.out.2.2.1 HX.out.2.2.2.1 HF.out HX.out.2.2.2.2 (by rw [hjl]; exact hown') hgrow hloc
      have e : l.take (j + 1) = l.take j ++ [.mk k b m t x q] := by rw [List.take_succ_eq_append_getElem hj1, HV.out]
      rw [← e] at acc
      have ACC := Lib.hid acc
      clear acc hown' hgrow hloc hownX
      go_wp2_with fail
      go_roundg (gk - 1)
      case measure => omega
      case rel => exact ⟨j + 1, by omega, by go_num, ACC⟩
    · have e : l.take j = l := by rw [List.take_of_length_le]; have := HL.out; omega
      have hA := HA.out
      rw [e] at hA
      obtain ⟨⟨xs, hown, hcs⟩, hbel⟩ := hA
      have HX := Lib.hid (And.intro hown (And.intro hcs hbel))
      clear hown hcs hbel HA
      go_wp2_with fail
      go_ret
      exact ⟨_, xs, rfl, HX.out.1, HX.out.2.1, HX.out.2.2⟩

theorem rcopy_list (q : List Val) (p : Option Addr) (cap : Nat) (w : World) (hl : Held w (.slice p q.length cap) q) (hn : q.length ≤ 2097152) (each : ∀ u ∈ q, RCopyV u) :
    Calls Tryz.prog 23 #[.slice p q.length cap] w (CopyPost w q) := by
  cases q with
  | nil =>
    go_enter Tryz.func23, Tryz.ntmps23
    go_wp2_with fail
    go_loopg [3, 4] 0 (fun gg s3 s4 wr => gg = 0 ∧ s4 = .int .i64 0 ∧ s3 = .slice none 0 0 ∧ wr = w)
    case atStart => exact ⟨rfl, rfl, rfl, rfl⟩
    case round =>
      obtain ⟨_, rfl, rfl, rfl⟩ := hrel
      go_wp2_with fail
      go_ret
      exact ⟨_, [], rfl, World.ownsRow_nil _ _ 31 6, by unfold CellsF; rfl, Below.refl _ _⟩
  | cons v r =>
    obtain ⟨g, off, rfl, hh⟩ := hl.form
    exact rcopySome (v :: r) g off cap w hh hn each
mutual
theorem rcopyVal : (v : Val) → RCopyV v
  | .mk k b n t x q => fun W k1 b1 n1 t1 x1 q1 p cap e hn hl => by
    cases e
    exact rcopy_list q p cap W hl hn (rcopyEach q)
theorem rcopyEach : (q : List Val) → ∀ u ∈ q, RCopyV u
  | [], _, h => absurd h (by simp)
  | v :: r, u, h => by
    rcases List.mem_cons.1 h with h | h
    · rw [h]; exact rcopyVal v
    · exact rcopyEach r u h
end
/-- CopyValue. -/
theorem rcopyAt (k : Int) (b : Bool) (n : Int) (t x : ByteArray) (q : List Val) (p : Option Addr) (cap : Nat) (w : World) (hf : Fine n t x q.length) (hl : Held w (.slice p q.length cap) q) :
    Calls Tryz.prog 7 #[.agg #[.int .i64 k, .bool b, .int .i64 n, .string t, .string x, .slice p q.length cap]] w (RValPost w k b n t x q) :=
  rcopyValue k b n t x q p cap w fun W h => rcopyVal (.mk k b n t x q) W k b n t x q p cap rfl hf.hn (Held.below q hl h)
end Go.Proofs.YtffbcccbhofbpaaGreatDoor

/- Values whose lists lie apart from one another: each in blocks of its own. -/
namespace Go.Proofs.YtffbcccbhofbpaaGreatDoor
open Go.RowKit

theorem range_heap {w w' : World} {g : Nat} (h : w'.heap[g]? = w.heap[g]?) {o : Nat} {cs : List Value} (r : w.rangeAt g o cs) : w'.rangeAt g o cs := fun j v hv => (World.cell?_of_block (a := ⟨g, o + j, none⟩) h).trans (r j v hv)
theorem there_heap {w w' : World} {g : Nat} (h : w'.heap[g]? = w.heap[g]?) {o n : Nat} (r : w.there g o n) : w'.there g o n := fun j hj =>
  ⟨by rw [World.cell?_of_block (a := ⟨g, o + j, none⟩) h]; exact (r j hj).1, by rw [World.frozen?_of_block (a := ⟨g, o + j, none⟩) h]; exact (r j hj).2⟩
mutual
/-- A value lies at off, and all lists in it in blocks from s to e. -/
def OneT (w : World) (g off s e : Nat) : Val → Prop
  | .mk k b n t x l => ∃ L, w.rangeAt g off [.int .i64 k, .bool b, .int .i64 n, .string t, .string x, L] ∧ w.there g off 6 ∧ Fine n t x l.length ∧ HeldT w s e L l
/-- A list, and all that lie in it, in blocks from lo to hi: no two in one. -/
def HeldT (w : World) (lo hi : Nat) (L : Value) : List Val → Prop
  | [] => ∃ p cap, L = .slice p 0 cap
  | v :: r => ∃ g off cap s e, L = .slice (some ⟨g, off, none⟩) (r.length + 1) cap ∧ lo ≤ g ∧ g < hi ∧ lo ≤ s ∧ s ≤ e ∧ e ≤ hi ∧ ¬ (s ≤ g ∧ g < e) ∧ OneT w g off s e v ∧ RestT w g (off + 6) e hi r
/-- Values one behind the other; the lists in them in blocks from lo to hi, in their order. -/
def RestT (w : World) (g off lo hi : Nat) : List Val → Prop
  | [] => True
  | v :: r => ∃ s e, lo ≤ s ∧ s ≤ e ∧ e ≤ hi ∧ ¬ (s ≤ g ∧ g < e) ∧ OneT w g off s e v ∧ RestT w g (off + 6) e hi r
end
mutual
theorem OneT.held {w : World} {g off s e : Nat} : (v : Val) → OneT w g off s e v → HoldsOne w g off v
  | .mk k b n t x l, h => by
    unfold OneT at h
    unfold HoldsOne
    obtain ⟨L, r, _, hf, hl⟩ := h
    exact ⟨r 0 _ rfl, r 1 _ rfl, r 2 _ rfl, r 3 _ rfl, r 4 _ rfl, hf, L, r 5 _ rfl, HeldT.held l hl⟩
theorem HeldT.held {w : World} {lo hi : Nat} {L : Value} : (l : List Val) → HeldT w lo hi L l → Held w L l
  | [], h => by
    unfold HeldT at h
    unfold Held
    exact h
  | v :: r, h => by
    unfold HeldT at h
    unfold Held
    obtain ⟨g, off, cap, s, e, rfl, _, _, _, _, _, _, hv, hr⟩ := h
    exact ⟨g, off, cap, rfl, OneT.held v hv, RestT.held r hr⟩
theorem RestT.held {w : World} {g off lo hi : Nat} : (l : List Val) → RestT w g off lo hi l → Holds w g off l
  | [], _ => by unfold Holds; trivial
  | v :: r, h => by
    unfold RestT at h
    unfold Holds
    obtain ⟨s, e, _, _, _, _, hv, hr⟩ := h
    exact ⟨OneT.held v hv, RestT.held r hr⟩
end
/-- What keeps the values of block g from off on. -/
structure Keep (w w' : World) (g off lo hi : Nat) : Prop where
  rng : ∀ o cs, off ≤ o → w.rangeAt g o cs → w'.rangeAt g o cs
  thr : ∀ o n, off ≤ o → w.there g o n → w'.there g o n
  blk : ∀ i, lo ≤ i → i < hi → i ≠ g → w'.heap[i]? = w.heap[i]?
theorem Keep.more {w w' : World} {g off lo hi off2 lo2 hi2 : Nat} (h : Keep w w' g off lo hi) (h1 : off ≤ off2) (h2 : lo ≤ lo2) (h3 : hi2 ≤ hi) : Keep w w' g off2 lo2 hi2 :=
  ⟨fun o cs ho => h.rng o cs (by omega), fun o n ho => h.thr o n (by omega), fun i a b c => h.blk i (by omega) (by omega) c⟩
theorem Keep.heap {w w' : World} {g off lo hi : Nat} (hg : w'.heap[g]? = w.heap[g]?) (h : ∀ i, lo ≤ i → i < hi → w'.heap[i]? = w.heap[i]?) : Keep w w' g off lo hi :=
  ⟨fun _ _ _ r => range_heap hg r, fun _ _ _ r => there_heap hg r, fun i a b _ => h i a b⟩
mutual
theorem OneT.keep {w w' : World} {g off s e : Nat} (h : Keep w w' g off s e) (hn : ¬ (s ≤ g ∧ g < e)) : (v : Val) → OneT w g off s e v → OneT w' g off s e v
  | .mk k b n t x l, hv => by
    unfold OneT at hv ⊢
    obtain ⟨L, r, th, hf, hl⟩ := hv
    exact ⟨L, h.rng _ _ (Nat.le_refl _) r, h.thr _ _ (Nat.le_refl _) th, hf, HeldT.stays (fun i a b => h.blk i a b (fun q => hn ⟨q ▸ a, q ▸ b⟩)) l hl⟩
theorem HeldT.stays {w w' : World} {lo hi : Nat} {L : Value} (h : ∀ i, lo ≤ i → i < hi → w'.heap[i]? = w.heap[i]?) : (l : List Val) → HeldT w lo hi L l → HeldT w' lo hi L l
  | [], hl => by
    unfold HeldT at hl ⊢
    exact hl
  | v :: r, hl => by
    unfold HeldT at hl ⊢
    obtain ⟨g, off, cap, s, e, rfl, h1, h2, h3, h4, h5, h6, hv, hr⟩ := hl
    have k : Keep w w' g off lo hi := Keep.heap (h g h1 h2) h
    exact ⟨g, off, cap, s, e, rfl, h1, h2, h3, h4, h5, h6, OneT.keep (k.more (Nat.le_refl _) h3 h5) h6 v hv, RestT.keep (k.more (by omega) (by omega) (Nat.le_refl _)) r hr⟩
theorem RestT.keep {w w' : World} {g off lo hi : Nat} (h : Keep w w' g off lo hi) : (l : List Val) → RestT w g off lo hi l → RestT w' g off lo hi l
  | [], _ => by unfold RestT; trivial
  | v :: r, hl => by
    unfold RestT at hl ⊢
    obtain ⟨s, e, h3, h4, h5, h6, hv, hr⟩ := hl
    exact ⟨s, e, h3, h4, h5, h6, OneT.keep (h.more (Nat.le_refl _) h3 h5) h6 v hv, RestT.keep (h.more (by omega) (by omega) (Nat.le_refl _)) r hr⟩
end
theorem RestT.wide {w : World} {g off lo hi lo2 : Nat} (h : lo2 ≤ lo) : (l : List Val) → RestT w g off lo hi l → RestT w g off lo2 hi l
  | [], _ => by unfold RestT; trivial
  | v :: r, hl => by
    unfold RestT at hl ⊢
    obtain ⟨s, e, h3, hl⟩ := hl
    exact ⟨s, e, by omega, hl⟩
theorem RestT.high {w : World} {g : Nat} : (l : List Val) → (off lo hi hi2 : Nat) → hi ≤ hi2 → RestT w g off lo hi l → RestT w g off lo hi2 l
  | [], _, _, _, _, _, _ => by unfold RestT; trivial
  | v :: r, off, lo, hi, hi2, h, hl => by
    unfold RestT at hl ⊢
    obtain ⟨s, e, h3, h4, h5, h6, hv, hr⟩ := hl
    exact ⟨s, e, h3, h4, by omega, h6, hv, RestT.high r _ _ _ _ h hr⟩
theorem HeldT.wide {w : World} {lo hi lo2 hi2 : Nat} {L : Value} (h : lo2 ≤ lo) (h2 : hi ≤ hi2) : (l : List Val) → HeldT w lo hi L l → HeldT w lo2 hi2 L l
  | [], hl => by
    unfold HeldT at hl ⊢
    exact hl
  | v :: r, hl => by
    unfold HeldT at hl ⊢
    obtain ⟨g, off, cap, s, e, rfl, h1, h2', h3, h4, h5, h6, hv, hr⟩ := hl
    exact ⟨g, off, cap, s, e, rfl, by omega, by omega, by omega, h4, by omega, h6, hv, RestT.high r _ _ _ _ h2 hr⟩
theorem HeldT.form {w : World} {lo hi : Nat} {p : Option Addr} {n cap : Nat} {v : Val} {r : List Val} (h : HeldT w lo hi (.slice p n cap) (v :: r)) : ∃ g off, p = some ⟨g, off, none⟩ ∧ n = r.length + 1 ∧ lo ≤ g ∧ g < hi ∧ RestT w g off lo hi (v :: r) := by
  unfold HeldT at h
  obtain ⟨g, off, cap', s, e, q, h1, h2, h3, h4, h5, h6, hv, hr⟩ := h
  injection q with q1 q2 q3
  unfold RestT
  exact ⟨g, off, q1, q2, h1, h2, s, e, h3, h4, h5, h6, hv, hr⟩
theorem HeldT.mk {w : World} {lo hi : Nat} {g off cap : Nat} {l : List Val} (h1 : lo ≤ g) (h2 : g < hi) (h : RestT w g off lo hi l) : HeldT w lo hi (.slice (some ⟨g, off, none⟩) l.length cap) l := by
  cases l with
  | nil => unfold HeldT; exact ⟨_, _, rfl⟩
  | cons v r =>
    unfold RestT at h
    unfold HeldT
    obtain ⟨s, e, h3, h4, h5, h6, hv, hr⟩ := h
    exact ⟨g, off, cap, s, e, rfl, h1, h2, h3, h4, h5, h6, hv, hr⟩
/-- The cells of values, their lists apart from each other and from the block own. -/
def CellsT (w : World) (own : Option Nat) (lo hi : Nat) : List Value → List Val → Prop
  | xs, [] => xs = []
  | xs, .mk k b n t x q :: r => ∃ L ys s e, xs = .int .i64 k :: .bool b :: .int .i64 n :: .string t :: .string x :: L :: ys ∧ Fine n t x q.length ∧ lo ≤ s ∧ s ≤ e ∧ e ≤ hi ∧ (∀ g, own = some g → ¬ (s ≤ g ∧ g < e)) ∧ HeldT w s e L q ∧ CellsT w own e hi ys r
theorem CellsT.snoc {w : World} {own : Option Nat} {hi s e : Nat} {k : Int} {b : Bool} {n : Int} {t x : ByteArray} {q : List Val} {L : Value} (h1 : hi ≤ s) (h2 : s ≤ e) (ho : ∀ g, own = some g → ¬ (s ≤ g ∧ g < e)) (hf : Fine n t x q.length) (hq : HeldT w s e L q) :
    (l : List Val) → (lo : Nat) → {xs : List Value} → lo ≤ hi → CellsT w own lo hi xs l → CellsT w own lo e (xs ++ [.int .i64 k, .bool b, .int .i64 n, .string t, .string x, L]) (l ++ [.mk k b n t x q])
  | [], lo, xs, h3, h => by
    unfold CellsT at h
    subst h
    show CellsT w own lo e [.int .i64 k, .bool b, .int .i64 n, .string t, .string x, L] [.mk k b n t x q]
    unfold CellsT
    exact ⟨L, [], s, e, rfl, hf, by omega, h2, Nat.le_refl _, ho, hq, by unfold CellsT; rfl⟩
  | .mk k' b' n' t' x' q' :: l, lo, xs, h3, h => by
    unfold CellsT at h
    obtain ⟨L', ys, s', e', rfl, hf', g1, g2, g3, g4, hq', hr⟩ := h
    show CellsT w own lo e _ (.mk k' b' n' t' x' q' :: (l ++ _))
    unfold CellsT
    exact ⟨L', _, s', e', rfl, hf', g1, g2, by omega, g4, hq', CellsT.snoc h1 h2 ho hf hq l e' g3 hr⟩
theorem CellsT.stays {w w' : World} {own : Option Nat} {hi : Nat} : (l : List Val) → (lo : Nat) → {xs : List Value} → (∀ i, lo ≤ i → i < hi → own ≠ some i → w'.heap[i]? = w.heap[i]?) → CellsT w own lo hi xs l → CellsT w' own lo hi xs l
  | [], _, _, _, h => by unfold CellsT at h ⊢; exact h
  | .mk k b n t x q :: l, lo, _, hs, h => by
    unfold CellsT at h ⊢
    obtain ⟨L, ys, s, e, rfl, hf, g1, g2, g3, g4, hq, hr⟩ := h
    exact ⟨L, ys, s, e, rfl, hf, g1, g2, g3, g4, hq.stays (fun i a b => hs i (by omega) (by omega) (fun o => g4 i o ⟨a, b⟩)) q, CellsT.stays l e (fun i a b => hs i (by omega) b) hr⟩
theorem CellsT.owner {w : World} {own own2 : Option Nat} {hi : Nat} (ho : own2 = own ∨ ∃ m, own2 = some m ∧ hi ≤ m) : (l : List Val) → (lo : Nat) → {xs : List Value} → CellsT w own lo hi xs l → CellsT w own2 lo hi xs l
  | [], _, _, h => by unfold CellsT at h ⊢; exact h
  | .mk k b n t x q :: l, lo, _, h => by
    unfold CellsT at h ⊢
    obtain ⟨L, ys, s, e, rfl, hf, g1, g2, g3, g4, hq, hr⟩ := h
    refine ⟨L, ys, s, e, rfl, hf, g1, g2, g3, fun g hg => ?_, hq, CellsT.owner ho l e hr⟩
    rcases ho with h | ⟨m, h, hm⟩
    · exact g4 g (h ▸ hg)
    · rw [h] at hg
      injection hg with hg
      omega
theorem CellsT.high {w : World} {own : Option Nat} {hi hi2 : Nat} (h2 : hi ≤ hi2) : (l : List Val) → (lo : Nat) → {xs : List Value} → CellsT w own lo hi xs l → CellsT w own lo hi2 xs l
  | [], _, _, h => by unfold CellsT at h ⊢; exact h
  | .mk k b n t x q :: l, lo, _, h => by
    unfold CellsT at h ⊢
    obtain ⟨L, ys, s, e, rfl, hf, g1, g2, g3, g4, hq, hr⟩ := h
    exact ⟨L, ys, s, e, rfl, hf, g1, g2, by omega, g4, hq, CellsT.high h2 l e hr⟩
theorem CellsT.rest {w : World} {g hi : Nat} : (l : List Val) → (off lo : Nat) → {xs : List Value} → CellsT w (some g) lo hi xs l → w.rangeAt g off xs → w.there g off (l.length * 6) → RestT w g off lo hi l
  | [], _, _, _, _, _, _ => by unfold RestT; trivial
  | .mk k b n t x q :: l, off, lo, _, h, hr, ht => by
    unfold CellsT at h
    obtain ⟨L, ys, s, e, rfl, hf, g1, g2, g3, g4, hq, hl⟩ := h
    unfold RestT
    refine ⟨s, e, g1, g2, g3, g4 g rfl, ?_, CellsT.rest l (off + 6) e hl (fun j v hv => ?_) (fun j hj => ?_)⟩
    · unfold OneT
      refine ⟨L, fun j v hv => hr j v ?_, fun j hj => ht j (by simp only [List.length_cons]; omega), hf, hq⟩
      match j, hv with
      | 0, hv => exact hv
      | 1, hv => exact hv
      | 2, hv => exact hv
      | 3, hv => exact hv
      | 4, hv => exact hv
      | 5, hv => exact hv
      | j + 6, hv => simp at hv
    · have := hr (j + 6) v hv
      rwa [show off + (j + 6) = off + 6 + j by omega] at this
    · have := ht (j + 6) (by simp only [List.length_cons]; omega)
      rwa [show off + (j + 6) = off + 6 + j by omega] at this
theorem CellsT.cells1 {w : World} {own : Option Nat} {hi : Nat} : (l : List Val) → (lo : Nat) → {xs : List Value} → CellsT w own lo hi xs l → ∀ u ∈ xs, u.oneCell' = true
  | [], _, _, h, u, hu => by
    unfold CellsT at h
    subst h
    cases hu
  | .mk k b n t x q :: l, lo, _, h, u, hu => by
    unfold CellsT at h
    obtain ⟨L, ys, s, e, rfl, hf, g1, g2, g3, g4, hq, hr⟩ := h
    obtain ⟨p, c, rfl⟩ := held_slice (HeldT.held q hq)
    simp only [List.mem_cons] at hu
    rcases hu with rfl | rfl | rfl | rfl | rfl | rfl | hu
    · rfl
    · rfl
    · rfl
    · rfl
    · rfl
    · rfl
    · exact CellsT.cells1 l e hr u hu
/-- What is one's own, and whose lists lie apart, is held so. -/
theorem heldT_of_own {w : World} {base lo hi : Nat} {V : Value} {xs : List Value} {l : List Val} (h : w.ownsRow base 31 6 V l.length xs) (c : CellsT w V.ownBlock lo hi xs l) (h1 : lo ≤ base) (h2 : w.heap.size ≤ hi) : HeldT w lo hi V l := by
  have hbb := h
  obtain ⟨hl, h0 | ⟨g, cap, cur, rfl, hg, hh, hc, hm, hz, ht⟩⟩ := h
  · obtain ⟨rfl, hn⟩ := h0
    obtain rfl := List.length_eq_zero_iff.1 hn
    unfold HeldT
    exact ⟨_, _, rfl⟩
  · have hlt : g < w.heap.size := by
      by_cases e : g < w.heap.size
      · exact e
      · rw [Array.getElem?_eq_none (by omega)] at hh; cases hh
    refine HeldT.mk (by omega) (by omega) (CellsT.rest l 0 lo c (fun j v hv => ?_) (fun j hj => ?_))
    · have := hbb.cells (g := g) rfl j v hv
      rwa [Addr.add_mid] at this
    · have hj2 : j < cur.size := by rw [hz]; have := Nat.mul_le_mul_right 6 hc; omega
      have e : w.cell? ⟨g, 0 + j, none⟩ = cur[0 + j]? := cell_of_row w g (0 + j) cur 31 (0, 0) hh
      refine ⟨?_, ?_⟩
      · rw [e, Nat.zero_add, Array.getElem?_eq_getElem hj2]
        rfl
      · exact free_of hh _
end Go.Proofs.YtffbcccbhofbpaaGreatDoor
