/- Texts of one kind, one behind the other: each says ahead of itself what it shows. -/
import Derived.Test.YtoifjjgakblhhaaGreatDoorHag
import Derived.Test.YtoifjjgakblhhaaGreatDoorHai
import Derived.Maps.AppendAt
import Derived.Shelf.Strconv.Clone
import Derived.WalkKit
import Derived.OwnWalk
import Derived.Deep.LoopGhost
import Derived.Test.YtoifjjgakblhhaaGreatDoorHan
import Derived.Test.YtoifjjgakblhhaaGreatDoorHaf
import Derived.Lib.AppendStr
import Derived.Deep.AppendLies
/- Values in one another, in blocks of one's own: where they lie, said with the blocks that hold them; a row of values that one owns. -/
namespace Go.Proofs.YtoifjjgakblhhaaGreatDoor
open Go.RowKit

mutual
/-- A value's six cells lie from off on; all lists in it lie in blocks of P. -/
def HoldsOneF (w : World) (P : Nat → Prop) (g off : Nat) : Val → Prop
  | .mk k b n t x l => w.cell? ⟨g, off, none⟩ = some (.int .i64 k) ∧ w.cell? ⟨g, off + 1, none⟩ = some (.bool b) ∧ w.cell? ⟨g, off + 2, none⟩ = some (.int .i64 n) ∧
    w.cell? ⟨g, off + 3, none⟩ = some (.string t) ∧ w.cell? ⟨g, off + 4, none⟩ = some (.string x) ∧ Fine n t x l.length ∧
    ∃ L, w.cell? ⟨g, off + 5, none⟩ = some L ∧ HeldF w P L l
/-- A slice whose elements are these, in blocks of P. -/
def HeldF (w : World) (P : Nat → Prop) (L : Value) : List Val → Prop
  | [] => ∃ p cap, L = .slice p 0 cap
  | v :: r => ∃ g off cap, L = .slice (some ⟨g, off, none⟩) (r.length + 1) cap ∧ P g ∧ HoldsOneF w P g off v ∧ HoldsF w P g (off + 6) r
/-- Values one behind the other from off on; all lists in them lie in blocks of P. -/
def HoldsF (w : World) (P : Nat → Prop) (g off : Nat) : List Val → Prop
  | [] => True
  | v :: r => HoldsOneF w P g off v ∧ HoldsF w P g (off + 6) r
end
mutual
theorem HoldsOneF.held {w : World} {P : Nat → Prop} {g off : Nat} : (v : Val) → HoldsOneF w P g off v → HoldsOne w g off v
  | .mk k b n t x l, h => by
    unfold HoldsOneF at h
    unfold HoldsOne
    obtain ⟨h0, h1, h2, h3, h4, hf, L, h5, hl⟩ := h
    exact ⟨h0, h1, h2, h3, h4, hf, L, h5, HeldF.held l hl⟩
theorem HeldF.held {w : World} {P : Nat → Prop} {L : Value} : (l : List Val) → HeldF w P L l → Held w L l
  | [], h => by
    unfold HeldF at h
    unfold Held
    exact h
  | v :: r, h => by
    unfold HeldF at h
    unfold Held
    obtain ⟨g, off, cap, e, _, hv, hr⟩ := h
    exact ⟨g, off, cap, e, HoldsOneF.held v hv, HoldsF.held r hr⟩
theorem HoldsF.held {w : World} {P : Nat → Prop} {g off : Nat} : (l : List Val) → HoldsF w P g off l → Holds w g off l
  | [], _ => by unfold Holds; trivial
  | v :: r, h => by
    unfold HoldsF at h
    unfold Holds
    exact ⟨HoldsOneF.held v h.1, HoldsF.held r h.2⟩
end
/-- All blocks of P are blocks of P', and are as they were. -/
def Stays (P P' : Nat → Prop) (w w' : World) : Prop := ∀ g, P g → P' g ∧ w'.heap[g]? = w.heap[g]?
theorem Stays.cell {P P' : Nat → Prop} {w w' : World} (h : Stays P P' w w') {g : Nat} (hg : P g) (o : Nat) {v : Value} (hv : w.cell? ⟨g, o, none⟩ = some v) : w'.cell? ⟨g, o, none⟩ = some v :=
  (World.cell?_of_block (w := w) (a := ⟨g, o, none⟩) (h g hg).2).trans hv
mutual
theorem HoldsOneF.stays {w w' : World} {P P' : Nat → Prop} {g off : Nat} (s : Stays P P' w w') (hg : P g) : (v : Val) → HoldsOneF w P g off v → HoldsOneF w' P' g off v
  | .mk k b n t x l, h => by
    unfold HoldsOneF at h ⊢
    obtain ⟨h0, h1, h2, h3, h4, hf, L, h5, hl⟩ := h
    exact ⟨s.cell hg _ h0, s.cell hg _ h1, s.cell hg _ h2, s.cell hg _ h3, s.cell hg _ h4, hf, L, s.cell hg _ h5, HeldF.stays s l hl⟩
theorem HeldF.stays {w w' : World} {P P' : Nat → Prop} {L : Value} (s : Stays P P' w w') : (l : List Val) → HeldF w P L l → HeldF w' P' L l
  | [], h => by
    unfold HeldF at h ⊢
    exact h
  | v :: r, h => by
    unfold HeldF at h ⊢
    obtain ⟨g, off, cap, e, hg, hv, hr⟩ := h
    exact ⟨g, off, cap, e, (s g hg).1, HoldsOneF.stays s hg v hv, HoldsF.stays s hg r hr⟩
theorem HoldsF.stays {w w' : World} {P P' : Nat → Prop} {g off : Nat} (s : Stays P P' w w') (hg : P g) : (l : List Val) → HoldsF w P g off l → HoldsF w' P' g off l
  | [], _ => by unfold HoldsF; trivial
  | v :: r, h => by
    unfold HoldsF at h ⊢
    exact ⟨HoldsOneF.stays s hg v h.1, HoldsF.stays s hg r h.2⟩
end
/-- Cells, six a value; all lists in them lie in blocks of P. -/
def CellsF (w : World) (P : Nat → Prop) : List Value → List Val → Prop
  | xs, [] => xs = []
  | xs, .mk k b n t x q :: r => ∃ L ys, xs = .int .i64 k :: .bool b :: .int .i64 n :: .string t :: .string x :: L :: ys ∧ Fine n t x q.length ∧ HeldF w P L q ∧ CellsF w P ys r
theorem CellsF.append {w : World} {P : Nat → Prop} : {xs ys : List Value} → (l r : List Val) → CellsF w P xs l → CellsF w P ys r → CellsF w P (xs ++ ys) (l ++ r)
  | _, _, [], _, h, g => by
    unfold CellsF at h
    subst h
    exact g
  | _, _, .mk k b n t x q :: l, r, h, g => by
    unfold CellsF at h
    obtain ⟨L, zs, rfl, hf, hq, hr⟩ := h
    show CellsF w P _ (.mk k b n t x q :: (l ++ r))
    unfold CellsF
    exact ⟨L, _, rfl, hf, hq, CellsF.append l r hr g⟩
theorem CellsF.stays {w w' : World} {P P' : Nat → Prop} (s : Stays P P' w w') : {xs : List Value} → (l : List Val) → CellsF w P xs l → CellsF w' P' xs l
  | _, [], h => by unfold CellsF at h ⊢; exact h
  | _, .mk k b n t x q :: l, h => by
    unfold CellsF at h ⊢
    obtain ⟨L, zs, rfl, hf, hq, hr⟩ := h
    exact ⟨L, zs, rfl, hf, HeldF.stays s q hq, CellsF.stays s l hr⟩
theorem CellsF.one {w : World} {P : Nat → Prop} {k : Int} {b : Bool} {n : Int} {t x : ByteArray} {q : List Val} {L : Value} (hf : Fine n t x q.length) (hq : HeldF w P L q) : CellsF w P [.int .i64 k, .bool b, .int .i64 n, .string t, .string x, L] [.mk k b n t x q] := by
  unfold CellsF
  exact ⟨L, [], rfl, hf, hq, by unfold CellsF; rfl⟩
theorem CellsF.holds {w : World} {P : Nat → Prop} {g : Nat} : {xs : List Value} → (l : List Val) → (off : Nat) → CellsF w P xs l → (∀ (j : Nat) u, xs[j]? = some u → w.cell? ⟨g, off + j, none⟩ = some u) → HoldsF w P g off l
  | _, [], _, _, _ => by unfold HoldsF; trivial
  | _, .mk k b n t x q :: l, off, h, hc => by
    unfold CellsF at h
    obtain ⟨L, zs, rfl, hf, hq, hr⟩ := h
    unfold HoldsF HoldsOneF
    refine ⟨⟨hc 0 _ rfl, hc 1 _ rfl, hc 2 _ rfl, hc 3 _ rfl, hc 4 _ rfl, hf, L, hc 5 _ rfl, hq⟩, CellsF.holds l (off + 6) hr fun j u hj => ?_⟩
    have := hc (j + 6) u hj
    rw [show off + 6 + j = off + (j + 6) by omega]
    exact this
/-- A row that one owns, of these values, whose lists lie elsewhere, in blocks of P: it is held. -/
theorem heldF_of_own {w : World} {base : Nat} {P P' : Nat → Prop} {V : Value} {xs : List Value} {l : List Val} (h : w.ownsRow base 28 6 V l.length xs) (c : CellsF w P xs l) (s : ∀ g, P g → P' g) (hP : ∀ g, V.ownBlock = some g → P' g) : HeldF w P' V l := by
  have c' : CellsF w P' xs l := c.stays (fun g hg => ⟨s g hg, rfl⟩) l
  rcases h.2 with ⟨rfl, hn⟩ | ⟨g, cap, cur, rfl, hb, hg, hcap, _, hsz, htk⟩
  · obtain rfl := List.length_eq_zero_iff.1 hn
    unfold HeldF
    exact ⟨none, 0, rfl⟩
  · have hh : HoldsF w P' g 0 l := c'.holds l 0 fun j u hj => by
      have e : cur[j]? = some u := by
        rw [← htk, List.getElem?_take] at hj
        split at hj
        · rw [← Array.getElem?_toList]; exact hj
        · cases hj
      rw [Nat.zero_add]
      exact cell_of hg j e
    cases l with
    | nil =>
      unfold HeldF
      exact ⟨_, cap, rfl⟩
    | cons v r =>
      unfold HoldsF at hh
      unfold HeldF
      exact ⟨g, 0, cap, rfl, hP g rfl, hh.1, hh.2⟩
end Go.Proofs.YtoifjjgakblhhaaGreatDoor

/- The library's copying of a string, by the library's own contract. -/
namespace Go.Proofs
open Go.Shelf
namespace YtoifjjgakblhhaaGreatDoor
open Go.RowKit
end YtoifjjgakblhhaaGreatDoor
end Go.Proofs

/- A list of values copied: none of it lies where the old one lay. -/
namespace Go.Proofs.YtoifjjgakblhhaaGreatDoor
open Go.RowKit

/-- What copyList tells: the same values, in blocks of its own. -/
def CopyPost (w : World) (q : List Val) (e : Ending) (w' : World) : Prop := ∃ V xs, e = .returned V ∧ w'.ownsRow w.heap.size 28 6 V q.length xs ∧ CellsF w' (fun g => w.heap.size ≤ g ∧ g < w'.heap.size ∧ V.ownBlock ≠ some g) xs q ∧ Below w.heap.size w w'
/-- What a round keeps. -/
structure Acc (w : World) (l : List Val) (A : Value) (wr : World) : Prop where
  own : ∃ xs, wr.ownsRow w.heap.size 28 6 A l.length xs ∧ CellsF wr (fun g => w.heap.size ≤ g ∧ g < wr.heap.size ∧ A.ownBlock ≠ some g) xs l
  bel : Below w.heap.size w wr
theorem own_below {w w' : World} {base : Nat} {e : TypeId} {size : Nat} {v : Value} {n : Nat} {xs : List Value} (h : w.ownsRow base e size v n xs) (b : Below w.heap.size w w') : w'.ownsRow base e size v n xs := by
  refine ⟨h.1, ?_⟩
  rcases h.2 with h0 | ⟨g, cap, cur, e1, h1, h2, h3⟩
  · exact .inl h0
  · exact .inr ⟨g, cap, cur, e1, h1, (b.block g (lt_of_heap h2)).trans h2, h3⟩
theorem info28b : (Tryz.prog.info? 28).map (fun i => (i.zero, i.size, i.bytes)) = some (some (.agg #[.int .i64 0, .bool false, .int .i64 0, .string ⟨#[]⟩, .string ⟨#[]⟩, .slice none 0 0]), 6, 80) := by kernel_rfl
theorem cell_six_new (w : World) (a b c d e f : Value) (t : TypeId) : ∀ j u, [a, b, c, d, e, f][j]? = some u → (w.alloc (.cells #[a, b, c, d, e, f] t)).cell? ((⟨w.heap.size, 0, none⟩ : Addr).add j) = some u := by
  intro j u hj
  rw [Addr.add_mid, Nat.zero_add]
  exact cell_of (heap_new w _ rfl) j (by simpa using hj)
/-- The round's end: one value more. -/
theorem Acc.next {w wr wf w1 : World} {l : List Val} {A A2 : Value} {xs : List Value} {k : Int} {b : Bool} {n : Int} {t x : ByteArray} {q : List Val} {V : Value} {e : Nat} {o : Obj} (he : e = wr.heap.size)
    (hx : wr.ownsRow w.heap.size 28 6 A l.length xs) (hc : CellsF wr (fun g => w.heap.size ≤ g ∧ g < wr.heap.size ∧ A.ownBlock ≠ some g) xs l) (hbel : Below w.heap.size w wr)
    (bf : Below wr.heap.size wr wf) (hf : Fine n t x q.length) (hq : HeldF wf (fun g => e < g ∧ g < wf.heap.size) V q)
    (hown : w1.ownsRow w.heap.size 28 6 A2 (l.length + 1) (xs ++ [.int .i64 k, .bool b, .int .i64 n, .string t, .string x, V])) (hgrow : (wf.alloc o).grownBy w1 A.ownBlock) (hloc : A2.ownBlock = A.ownBlock ∨ A2.ownBlock = some (wf.heap.size + 1)) :
    Acc w (l ++ [.mk k b n t x q]) A2 w1 := by
  have hA : ∀ g, A.ownBlock = some g → g < wr.heap.size := fun g hg => (hx.lt g hg).2
  have s1 : (wf.alloc o).heap.size = wf.heap.size + 1 := by simp
  have s2 : wr.heap.size ≤ wf.heap.size := bf.size
  have s3 : (wf.alloc o).heap.size ≤ w1.heap.size := hgrow.size
  have s0 : w.heap.size ≤ wr.heap.size := hbel.size
  have hn2 : ∀ g, g < wf.heap.size → A.ownBlock ≠ some g → A2.ownBlock ≠ some g := fun g hg hne h => by
    rcases hloc with h2 | h2
    · exact hne (h2 ▸ h)
    · rw [h2] at h
      have := Option.some.inj h
      omega
  have keep : ∀ g, g < wf.heap.size → A.ownBlock ≠ some g → w1.heap[g]? = wf.heap[g]? := fun g hg hne => by
    rw [hgrow.block g (by omega) (fun h => hne h.symm)]
    exact Below.heap_alloc _ _ _ hg
  refine ⟨⟨_, by rw [List.length_append]; exact hown, ?_⟩, (hbel.trans (bf.mono s0) |>.alloc (by omega) o).grown hgrow (by omega) (fun g hg => (hx.lt g hg).1)⟩
  refine CellsF.append l _ (hc.stays (fun g hg => ⟨⟨hg.1, by omega, hn2 g (by omega) hg.2.2⟩, ?_⟩) l) (CellsF.one hf (hq.stays (fun g hg => ?_) q))
  · rw [keep g (by omega) hg.2.2]
    exact bf.block g hg.2.1
  · have hne : A.ownBlock ≠ some g := fun h => by have := hA g h; omega
    exact ⟨⟨by omega, by omega, hn2 g hg.2 hne⟩, keep g hg.2 hne⟩

end Go.Proofs.YtoifjjgakblhhaaGreatDoor

/- How a value is encoded: the kinds one by one. -/

namespace Go.Proofs.YtoifjjgakblhhaaGreatDoor
open Go.RowKit

theorem strange {k : Int} (h : kindT k = 124) : k ≠ 0 ∧ k ≠ 1 ∧ k ≠ 2 ∧ k ≠ 3 ∧ k ≠ 4 ∧ k ≠ 5 ∧ k ≠ 6 ∧ k ≠ 7 ∧ k ≠ 8 ∧ k ≠ 9 ∧ k ≠ 10 := by
  refine ⟨?_, ?_, ?_, ?_, ?_, ?_, ?_, ?_, ?_, ?_, ?_⟩ <;> (rintro rfl; revert h; decide)
end Go.Proofs.YtoifjjgakblhhaaGreatDoor

/- The document's own encoding: a length, a text, the kinds one by one. -/
namespace Go.Proofs.YtoifjjgakblhhaaGreatDoor
open Go.RowKit

end Go.Proofs.YtoifjjgakblhhaaGreatDoor

/- How a text's length is encoded: four bytes behind what was there. -/
namespace Go.Proofs.YtoifjjgakblhhaaGreatDoor
open Go.RowKit

theorem info5b : (Tryz.prog.info? 5).map (fun i => (i.zero, i.size, i.bytes)) = some (some (.int .u8 0), 1, 1) := by kernel_rfl
/-- A row of bytes of one's own. -/
structure Own (base n : Nat) (v : Value) (w0 w : World) : Prop where
  row : ∃ xs, w.ownsRow base 5 1 v n xs
  lo : base ≤ w.heap.size
  bel : Below base w0 w

set_option maxRecDepth 20000 in
set_option maxHeartbeats 3200000 in
theorem encodeInt3 (base n : Nat) (v : Value) (w0 w : World) (h : Own base n v w0 w) (hn : n ≤ 1000) :
    Calls Tryz.prog 107 #[v, .int .u64 3, .int .i64 4] w fun e w' => ∃ v', e = .returned v' ∧ Own base (n + 4) v' w0 w' := by
  obtain ⟨i0, hi, hz0, hz1, hz2⟩ := info_parts info5b
  go_enter Tryz.func107, Tryz.ntmps107
  go_wp2_with fail
  go_loopg [0, 7] 4 (fun gg s0 s7 wr => ∃ j : Nat, j + gg = 4 ∧ s7 = .int .i64 (3 - (j : Int)) ∧ Own base (n + j) s0 w0 wr)
  case atStart => exact ⟨0, by omega, rfl, h⟩
  case round =>
    clear h
    obtain ⟨j, hj, rfl, O⟩ := hrel
    have hj4 : j = 0 ∨ j = 1 ∨ j = 2 ∨ j = 3 ∨ j = 4 := by omega
    obtain ⟨⟨xs, hown⟩, hlo, hbel⟩ := O
    rcases hj4 with rfl | rfl | rfl | rfl | rfl
    case inr.inr.inr.inr =>
      go_wp2_with fail
      go_ret
      exact ⟨_, rfl, ⟨xs, hown⟩, hlo, hbel⟩
    all_goals
      go_wp2_with (at_builtin; refine wpList_append_own _ rfl _ _ 40 rfl base 5 i0 (.int .u8 0) 1 1 Tryz.underlying40 hi hz0 hz1 hz2 rfl (by decide) _ _ _ rfl (hown.alloc _) ⟨wr.heap.size, 0, none⟩ 1 1 [_] rfl rfl (cell_one_new _ _ _) ?_ ?_ ?_ ?_ ?_)
      all_goals (try (first | rfl | (unfold maxLen; omega) | omega | (simp; omega) | (intro u hu; simp at hu; subst hu; rfl)))
      intro v' w1 hown' hgrow _
      have b1 : Below base w0 w1 := (hbel.alloc hlo _).grown hgrow (by simp; omega) (fun k hk => by have := (hown.lt k hk).1; omega)
      have l1 : base ≤ w1.heap.size := by have := hgrow.size; simp at this; omega
      clear hgrow
      go_wp2_with fail
      go_roundg (gk - 1)
      case measure => omega
      case rel => first | exact ⟨1, by omega, rfl, ⟨_, hown'⟩, l1, b1⟩ | exact ⟨2, by omega, rfl, ⟨_, hown'⟩, l1, b1⟩ | exact ⟨3, by omega, rfl, ⟨_, hown'⟩, l1, b1⟩ | exact ⟨4, by omega, rfl, ⟨_, hown'⟩, l1, b1⟩
end Go.Proofs.YtoifjjgakblhhaaGreatDoor

/- A number, not below nothing, written behind what is there: all other blocks stay; the steps of a region that draws. -/
namespace Go.Proofs.YtoifjjgakblhhaaGreatDoor
open Go.RowKit Go.Sort

theorem wrapU2 (n : Int) : IntKind.u64.wrap n = n % 18446744073709551616 := rfl
theorem digits_len (u : Nat) (h : u ≤ 9223372036854775807) : (Lib.decDigits u).length ≤ 21 := by
  have h1 := Lib.itoa_length_le (u : Int) (by omega) (by omega)
  rwa [Lib.itoa_nonneg] at h1
set_option maxRecDepth 100000 in
set_option maxHeartbeats 6400000 in
theorem uintSmall (B n u : Nat) (hu : u < 100) (A : Value) (xs : List Value) (w : World) (hown : w.ownsRow B 5 1 A n xs) (hB : B ≤ w.heap.size) (hn : n ≤ 1000000000) :
    Calls Tryz.prog 149 #[A, .int .u64 u, .int .i64 10] w fun e w' => ∃ A', e = .returned A' ∧ w'.ownsRow B 5 1 A' (n + (Lib.decDigits u).length) (xs ++ Lib.byteCells (Lib.decDigits u)) ∧ w.grownBy w' A.ownBlock := by
  obtain ⟨i0, hi, hz0, hz1, hz2⟩ := info_parts info5b
  have hl := digits_len u (by omega)
  obtain ⟨X, hX⟩ : ∃ X : ByteArray, X = ⟨(Lib.decDigits u).toArray⟩ := ⟨_, rfl⟩
  have hsz : X.size = (Lib.decDigits u).length := by rw [hX]; simp [ByteArray.size]
  have hs : ∀ W, Calls Tryz.prog 171 #[.int .i64 u] W fun e w' => e = .returned (.string X) ∧ w' = W := fun W => by
    rw [hX]; exact Any.internal_strconv_small { Tryz.laysM176 with } u hu W
  have hcx : Lib.strCells X = Lib.byteCells (Lib.decDigits u) := by rw [hX]; rfl
  have HC := Lib.hid hcx
  have hx21 : X.size ≤ 21 := by omega
  have HS := Lib.hid hsz
  clear hX hcx hl hsz
  have iu : (u : Int) < 100 := by omega
  have hwr : wrap64 (u : Int) = u := by unfold wrap64; omega
  go_enter Tryz.func149, Tryz.ntmps149
  go_wp2_with (first
    | (go_at_call 171; (with_reducible refine (hs _).mono ?_); rintro e w' ⟨rfl, rfl⟩)
    | (at_builtin; refine Lib.wpList_append_own_string _ rfl _ _ 40 9 rfl B 5 i0 Tryz.underlying40 Tryz.underlying9 hi hz0 hz1 hz2 A n xs rfl hown X rfl (by unfold maxLen; omega) (by omega) hB ?_))
  intro v' w1 hown' hgrow _
  have HO := Lib.hid hown'
  clear hown' hown
  go_wp2_with fail
  go_ret
  exact ⟨v', rfl, by rw [← HS.out, ← HC.out]; exact HO.out, hgrow⟩
set_option maxRecDepth 100000 in
set_option maxHeartbeats 6400000 in
theorem digitsAt (u : Nat) (h64 : u < 18446744073709551616) (w : World) :
    Calls Tryz.prog 173 #[.slice (some ⟨w.heap.size, 0, none⟩) (Lib.nDigits u) 24, .int .u64 u] (w.alloc (.cells Lib.zeros24 175)) fun e w' => e = .returned (.tuple #[]) ∧ Below w.heap.size w w' ∧ ∀ j c, (Lib.byteCells (Lib.decDigits u))[j]? = some c → w'.cell? ((⟨w.heap.size, 0, none⟩ : Addr).add j) = some c := by
  by_cases h24 : Lib.nDigits u ≤ 24
  · have h0 := Lib.holds_zero0 w 175 (Lib.nDigits u) h24
    have h1 := Any.internal_strconv_formatBase10 { Tryz.laysM176 with } w.heap.size 0 24 u (Array.replicate (Lib.nDigits u) 0) (w.alloc (.cells Lib.zeros24 175)) h0 (by rw [Array.size_replicate]; exact Lib.lt_pow_nDigits u) h64 (by rw [Array.size_replicate]; omega)
    rw [Array.size_replicate] at h1
    refine h1.mono ?_
    rintro e w' ⟨rfl, k, v', dk, rfl, hF⟩
    refine ⟨rfl, ?_, fun j c hj => ?_⟩
    · obtain ⟨os, eo⟩ := Lib.fin_at w (.cells Lib.zeros24 175) dk k 0
      rw [eo]
      exact Lib.below_grow _ w (Nat.le_refl _) k os
    · have hjl : j < (Lib.decDigits u).length := by
        have h5 := (List.getElem?_eq_some_iff.1 hj).1
        rwa [Lib.byteCells_length] at h5
      have e5 : (Lib.byteCells (Lib.decDigits u))[j]? = some (Value.int .u8 ((Lib.decDigits u)[j].toNat : Int)) := by simp [Lib.byteCells, hjl]
      rw [e5] at hj
      cases hj
      rw [Lib.row_is_numeral hF j hjl, Lib.add_plain, World.cell?_drewN]
      exact cell?_putRow (fun (b : UInt8) => Value.int .u8 (b.toNat : Int)) _ w.heap.size 0 _ dk h0 (by rw [hF.size, Array.size_replicate]) j (by rw [hF.size]; rw [Lib.decDigits_length] at hjl; exact hjl)
  · exfalso
    have h5 : (2 : Nat) ^ 64 = 18446744073709551616 := by decide
    have h6 := Lib.numDigits_eq u (by rcases Nat.eq_zero_or_pos u with h | h
                                      · subst h; exact absurd (show Lib.nDigits 0 ≤ 24 by rw [Lib.nDigits_small (by omega)]; omega) h24
                                      · exact h) h64
    split at h6 <;> omega
set_option maxRecDepth 100000 in
set_option maxHeartbeats 6400000 in
theorem uintBig (B n u : Nat) (hu : 100 ≤ u) (h63 : u ≤ 9223372036854775807) (A : Value) (xs : List Value) (w : World) (hown : w.ownsRow B 5 1 A n xs) (hB : B ≤ w.heap.size) (hn : n ≤ 1000000000) (hT : Tab w) :
    Calls Tryz.prog 149 #[A, .int .u64 u, .int .i64 10] w fun e w' => ∃ A', e = .returned A' ∧ w'.ownsRow B 5 1 A' (n + (Lib.decDigits u).length) (xs ++ Lib.byteCells (Lib.decDigits u)) ∧ w.grownBy w' A.ownBlock := by
  obtain ⟨i0, hi, hz0, hz1, hz2⟩ := info_parts info5b
  have hl := digits_len u h63
  have hd := Lib.decDigits_length u
  have hnd : ∀ W, Lib.TabIs Tryz.prog W "internal/strconv.uint64pow10" .u64 Lib.pow10Tab → Calls Tryz.prog 172 #[.int .u64 u] W fun e w' => e = .returned (.int .i64 (Lib.nDigits u)) ∧ w' = W := fun W hW =>
    Any.internal_strconv_numDigits { Tryz.laysM176 with } u (by omega) (by omega) W hW
  have hdig := digitsAt u (by omega) w
  have hal : Tryz.prog.arrayLen 175 = 24 := by simp [Program.arrayLen, Tryz.underlying175]
  have hsl : ∀ W, (Instr.sliceAt 175 (.pointer (some ⟨w.heap.size, 0, none⟩)) none (some (.int .i64 (Lib.nDigits u : Int))) none).run Tryz.prog W = .ok (.slice (some ⟨w.heap.size, 0, none⟩) (Lib.nDigits u) 24) W := fun W => by
    rw [run_sliceAt_array_h W 175 ⟨w.heap.size, 0, none⟩ (by simp [Program.arrayLen, Program.elem, Tryz.underlying175]) .i64 (Lib.nDigits u : Int) (by omega) (by rw [hal]; omega)]
    go_simp
  have HL := Lib.hid (And.intro hl hd)
  have iu : (100 : Int) ≤ (u : Int) := by omega
  have HO := Lib.hid (And.intro hown hn)
  clear hl hd hal hown
  go_enter Tryz.func149, Tryz.ntmps149
  go_wp2_with (first
    | (go_at_call 172; refine (hnd _ (Lib.tabIs_alloc hT _)).mono ?_; rintro e w' ⟨rfl, rfl⟩))
  go_at_call 173
  refine hdig.mono ?_
  rintro e W2 ⟨rfl, hb, hc⟩
  have hown2 := own_below HO.out.1 hb
  have hn := HO.out.2
  have hls := HL.out
  have hs2 := hb.size
  clear hdig hnd
  go_wp2_with (at_builtin; refine wpList_append_own _ rfl _ _ 40 rfl B 5 i0 (.int .u8 0) 1 1 Tryz.underlying40 hi hz0 hz1 hz2 rfl (by decide) A n xs rfl hown2 ⟨w.heap.size, 0, none⟩ (Lib.nDigits u) 24 (Lib.byteCells (Lib.decDigits u)) rfl ?c0 hc ?c2 ?c3 ?c4 ?c5 ?_)
  case c0 => rw [Lib.byteCells_length, Lib.decDigits_length, Nat.mul_one]
  case c2 => intro u' hu'; simp only [Lib.byteCells, List.mem_map] at hu'; obtain ⟨b, _, rfl⟩ := hu'; rfl
  case c3 => unfold maxLen; omega
  case c4 => omega
  case c5 => omega
  intro v2 w3 hown' hgrow _
  have HX := Lib.hid hown'
  have HG : Hid (w.grownBy w3 A.ownBlock) := Lib.hid ⟨hgrow.os.trans hb.os, hgrow.tape.trans hb.tape, hgrow.output.trans hb.output, Nat.le_trans hb.size hgrow.size, fun k hk hne => (hgrow.block k (Nat.lt_of_lt_of_le hk hb.size) hne).trans (hb.block k hk)⟩
  clear hown' hown2 hc hgrow
  go_wp2_with fail
  go_ret
  exact ⟨v2, rfl, by rw [hls.2]; exact HX.out, HG.out⟩
set_option maxRecDepth 100000 in
set_option maxHeartbeats 6400000 in
/-- AppendInt of a number that is not below nothing. -/
theorem appendNatAt (w0 w : World) (A : Value) (l : List UInt8) (n : Int) (h0 : 0 ≤ n) (h1 : n ≤ 9223372036854775807) (h : OwnB w0 A l w) (hT : Tab w) (hl : l.length ≤ 1000000000) :
    Calls Tryz.prog 82 #[A, .int .i64 n, .int .i64 10] w fun e w' => ∃ A', e = .returned A' ∧ OwnB w0 A' (l ++ Lib.itoa n) w' ∧ w.grownBy w' A.ownBlock := by
  obtain ⟨u, rfl⟩ : ∃ u : Nat, n = (u : Int) := ⟨n.toNat, by omega⟩
  have hc : Calls Tryz.prog 149 #[A, .int .u64 u, .int .i64 10] w fun e w' => ∃ A', e = .returned A' ∧ w'.ownsRow w0.heap.size 5 1 A' (l.length + (Lib.decDigits u).length) (vals l ++ Lib.byteCells (Lib.decDigits u)) ∧ w.grownBy w' A.ownBlock := by
    by_cases hu : u < 100
    · exact uintSmall w0.heap.size l.length u hu A (vals l) w h.own h.lo hl
    · exact uintBig w0.heap.size l.length u (by omega) (by omega) A (vals l) w h.own h.lo hl hT
  have hw : IntKind.u64.wrap (u : Int) = u := by rw [wrapU2]; omega
  have h2 : Calls Tryz.prog 121 #[A, .int .i64 u, .int .i64 10] w fun e w' => ∃ A', e = .returned A' ∧ OwnB w0 A' (l ++ Lib.itoa u) w' ∧ w.grownBy w' A.ownBlock := by
    have hnn : ¬ ((u : Int) < 0) := by omega
    go_enter Tryz.func121, Tryz.ntmps121
    go_wp2_with (go_at_call 149; (with_reducible refine hc.mono ?_); rintro e w' ⟨A', rfl, hr, hg⟩; have HR := Lib.hid hr; clear hr)
    go_ret
    exact ⟨A', rfl, h.say HR.out hg (by rw [List.length_append, Lib.itoa_nonneg]) (by rw [vals_append, Lib.itoa_nonneg]; rfl), hg⟩
  go_enter Tryz.func82, Tryz.ntmps82
  go_wp2_with (go_at_call 121; (with_reducible refine h2.mono ?_); rintro e w' ⟨A', rfl, hr, hg⟩; have HR := Lib.hid hr; clear hr)
  go_ret
  exact ⟨A', rfl, HR.out, hg⟩

/-- A new block of one byte, beside the row that one writes. -/
structure Fresh (W : World) (A : Value) (g : Nat) (c : UInt8) : Prop where
  cell : W.cell? ⟨g, 0, none⟩ = some (.int .u8 (c.toNat : Int))
  ne : some g ≠ A.ownBlock
section
variable {w0 W W2 : World} {A A2 : Value} {l : List UInt8} {g : Nat} {c d : UInt8}
theorem Fresh.new (O : OwnB w0 A l W) (e : W2 = W.alloc (.cells #[.int .u8 (c.toNat : Int)] 5)) : Fresh W2 A W.heap.size c :=
  ⟨by rw [e, World.cell?_alloc_new]; rfl, O.ne⟩
theorem Fresh.after (F : Fresh W A g c) (h : Below W.heap.size W W2) : Fresh W2 A g c := ⟨(h.cell (World.block_lt_of_cell? W _ F.cell)).trans F.cell, F.ne⟩
theorem Fresh.alloc (F : Fresh W A g c) {o : Obj} (e : W2 = W.alloc o) : Fresh W2 A g c := F.after (by rw [e]; exact below1 _ _)
theorem Fresh.far (F : Fresh W A g c) (h : W.grownBy W2 A.ownBlock) : W2.cell? ⟨g, 0, none⟩ = some (.int .u8 (c.toNat : Int)) :=
  (h.cell_far ⟨g, 0, none⟩ (World.block_lt_of_cell? W _ F.cell) F.ne).trans F.cell
theorem Fresh.grown (F : Fresh W A g c) (h : W.grownBy W2 A.ownBlock) (hat : A2.ownBlock = A.ownBlock ∨ A2.ownBlock = some W.heap.size) : Fresh W2 A2 g c :=
  ⟨F.far h, fun e => by
    rcases hat with k | k
    · exact F.ne (e.trans k)
    · have h1 := World.block_lt_of_cell? W _ F.cell
      have h2 : g = W.heap.size := Option.some.inj (e.trans k)
      have h3 : g < W.heap.size := h1
      omega⟩
end

section
variable {ops : Array Oper} {o : Oper} {a : Act} {K : Act → World → Prop} {Q : Exit → Act → World → Prop} {E : Prop} {w0 w : World} {A : Value} {l : List UInt8}
theorem wpB_one {c : UInt8} {g cap : Nat} (s x : Operand) (ho : o.op = .call { callee := .builtin .append, args := #[s, x], argTypes := #[40, 40] }) (hs : a.eval s = A) (hx : a.eval x = .slice (some ⟨g, 0, none⟩) 1 cap)
    (hO : OwnB w0 A l w) (hc : w.cell? ⟨g, 0, none⟩ = some (.int .u8 (c.toNat : Int))) (hl : l.length ≤ 1000000000)
    (h : ∀ A' w', OwnB w0 A' (l ++ [c]) w' → w.grownBy w' A.ownBlock → (A'.ownBlock = A.ownBlock ∨ A'.ownBlock = some w.heap.size) → K (a.put o.dst A') w') : Oper.wp Tryz.prog o a w K Q := by
  obtain ⟨i0, hi, hz0, hz1, hz2⟩ := info_parts info5b
  refine wp_append_lies w s x 40 ho w0.heap.size 5 i0 (.int .u8 0) 1 1 Tryz.underlying40 hi hz0 hz1 hz2 rfl (by decide) A l.length (vals l) hs hO.own ⟨g, 0, none⟩ 1 cap [.int .u8 (c.toNat : Int)] hx rfl ?_ ?_ (by decide) (by unfold maxLen; omega) (by omega) hO.lo w.heap.size rfl ?_
  · intro j u hj
    match j, hj with
    | 0, hj => simp at hj; subst hj; simpa [Addr.add] using hc
  · intro u hu
    simp at hu
    subst hu
    rfl
  · intro g' cap' w' hown hg hat _
    refine h _ w' (hO.say hown hg (by simp) (by rw [vals_append]; rfl)) hg ?_
    rcases hat with k | k
    · exact .inl (by rw [k]; rfl)
    · exact .inr (by rw [k]; rfl)
theorem wpB_str {t : ByteArray} (s x : Operand) (ho : o.op = .call { callee := .builtin .append, args := #[s, x], argTypes := #[40, 9] }) (hs : a.eval s = A) (hx : a.eval x = .string t)
    (hO : OwnB w0 A l w) (hl : l.length ≤ 1000000000) (ht : t.size ≤ 1000000000)
    (h : ∀ A' w', OwnB w0 A' (l ++ txtB t) w' → w.grownBy w' A.ownBlock → K (a.put o.dst A') w') : Oper.wp Tryz.prog o a w K Q := by
  obtain ⟨i0, hi, hz0, hz1, hz2⟩ := info_parts info5b
  obtain ⟨v', w', hr, h2, h3, _⟩ := Lib.run_append_own_string (P := Tryz.prog) (w := w) w0.heap.size 40 9 o.type 5 i0 Tryz.underlying40 Tryz.underlying9 hi hz0 hz1 hz2 A l.length (vals l) hO.own t (by unfold maxLen; omega) (by omega) hO.lo
  unfold Oper.wp execOp
  simp only [ho, resolve, invoke, builtin, Sem.run_bind, Sem.run_pure, Result.andThen_ok, List.map_toArray, List.map_cons, List.map_nil, hs, hx, hr]
  exact h v' w' (hO.say h2 h3 (by rw [List.length_append, txtB_length]) (by rw [vals_append, strCells_vals])) h3
theorem wpB_build {c : UInt8} (ho : o.op = .buildSlice 40 1 #[(0, .const (.int .u8 (c.toNat : Int)))]) (h : ∀ w', w' = w.alloc (.cells #[.int .u8 (c.toNat : Int)] 5) → K (a.put o.dst (.slice (some ⟨w.heap.size, 0, none⟩) 1 1)) w') : Oper.wp Tryz.prog o a w K Q := by
  unfold Oper.wp execOp
  simp only [ho]
  go_simp
  exact h _ rfl
end
section
variable {ops : Array Oper} {rest : List Oper} {o : Oper} {a : Act} {Q : Exit → Act → World → Prop} {w0 w : World} {A : Value} {l : List UInt8}
theorem wpListB_one {c : UInt8} {g cap : Nat} (hgd : o.guard = none) (s x : Operand) (ho : o.op = .call { callee := .builtin .append, args := #[s, x], argTypes := #[40, 40] }) (hs : a.eval s = A) (hx : a.eval x = .slice (some ⟨g, 0, none⟩) 1 cap)
    (hO : OwnB w0 A l w) (hc : w.cell? ⟨g, 0, none⟩ = some (.int .u8 (c.toNat : Int))) (hl : l.length ≤ 1000000000)
    (h : ∀ A' w', OwnB w0 A' (l ++ [c]) w' → w.grownBy w' A.ownBlock → wpList Tryz.prog ops Q rest (a.put o.dst A') w') : wpList Tryz.prog ops Q (o :: rest) a w :=
  wpList_plain hgd fun _ hK => wpB_one s x ho hs hx hO hc hl fun A' w' h1 h2 _ => hK _ _ (h A' w' h1 h2)
theorem wpListB_str {t : ByteArray} (hgd : o.guard = none) (s x : Operand) (ho : o.op = .call { callee := .builtin .append, args := #[s, x], argTypes := #[40, 9] }) (hs : a.eval s = A) (hx : a.eval x = .string t)
    (hO : OwnB w0 A l w) (hl : l.length ≤ 1000000000) (ht : t.size ≤ 1000000000)
    (h : ∀ A' w', OwnB w0 A' (l ++ txtB t) w' → w.grownBy w' A.ownBlock → wpList Tryz.prog ops Q rest (a.put o.dst A') w') : wpList Tryz.prog ops Q (o :: rest) a w :=
  wpList_plain hgd fun _ hK => wpB_str s x ho hs hx hO hl ht fun A' w' h1 h2 => hK _ _ (h A' w' h1 h2)
end
set_option maxRecDepth 100000 in
set_option maxHeartbeats 6400000 in
/-- AppendBool. -/
theorem appendBoolAt (w0 w : World) (A : Value) (l : List UInt8) (b : Bool) (h : OwnB w0 A l w) (hl : l.length ≤ 1000000000) :
    Calls Tryz.prog 81 #[A, .bool b] w fun e w' => ∃ A', e = .returned A' ∧ OwnB w0 A' (l ++ boolB b) w' ∧ Bx w w' := by
  have h2 : Calls Tryz.prog 120 #[A, .bool b] w fun e w' => ∃ A', e = .returned A' ∧ OwnB w0 A' (l ++ boolB b) w' ∧ Bx w w' := by
    cases b with
    | true =>
      go_enter Tryz.func120, Tryz.ntmps120
      go_wp2_with (at_builtin; refine wpListB_str rfl (.tmp 6) _ rfl rfl rfl h hl (by decide) ?_; intro A3 w3 O3 hg3; have HO := Lib.hid O3; clear O3)
      go_ret
      exact ⟨A3, rfl, HO.out, h.bx hg3⟩
    | false =>
      go_enter Tryz.func120, Tryz.ntmps120
      go_wp2_with (at_builtin; refine wpListB_str rfl (.tmp 8) _ rfl rfl rfl h hl (by decide) ?_; intro A3 w3 O3 hg3; have HO := Lib.hid O3; clear O3)
      go_ret
      exact ⟨A3, rfl, HO.out, h.bx hg3⟩
  go_enter Tryz.func81, Tryz.ntmps81
  go_wp2_with (go_at_call 120; (with_reducible refine h2.mono ?_); rintro e w' ⟨A', rfl, hr, hg⟩; have HR := Lib.hid hr; clear hr)
  go_ret
  exact ⟨A', rfl, HR.out, hg⟩
end Go.Proofs.YtoifjjgakblhhaaGreatDoor

/- How a value is shown: the kinds one by one. -/
namespace Go.Proofs.YtoifjjgakblhhaaGreatDoor
open Go.RowKit

/-- What show tells. -/
def ShowPost (w0 : World) (l : List UInt8) (v : Val) (e : Ending) (w' : World) : Prop := ∃ A', e = .returned A' ∧ OwnB w0 A' (l ++ showP v) w'

set_option maxRecDepth 20000 in
set_option maxHeartbeats 6400000 in
theorem showNull (w0 w : World) (A : Value) (l : List UInt8) (b : Bool) (n : Int) (t x : ByteArray) (p : Option Addr) (q : List Val) (cap : Nat) (hf : Fine n t x q.length) (h : OwnB w0 A l w) (hl : l.length ≤ 800000000) :
    Calls Tryz.prog 40 #[A, .agg #[.int .i64 0, .bool b, .int .i64 n, .string t, .string x, .slice p q.length cap]] w (ShowPost w0 l (.mk 0 b n t x q)) := by
  obtain ⟨W0, hW0⟩ : ∃ W0, W0 = w.alloc (.cells #[.int .i64 0, .bool b, .int .i64 n, .string t, .string x, .slice p q.length cap] 28) := ⟨_, rfl⟩
  have S : Six W0 w.heap.size 0 b n t x p q.length cap := by rw [hW0]; exact six_new _ rfl
  have O : OwnB w0 A l W0 := by rw [hW0]; exact h.alloc _
  have hlo : w0.heap.size ≤ w.heap.size := h.lo
  have H0 := Lib.hid hW0
  have HF := Lib.hid hf
  have htz := hf.ht
  have hxz := hf.hx
  clear hW0 h hf
  go_enter Tryz.func40, Tryz.ntmps40
  go_wp2_with (first
    | (rw [← H0.out]; (with_reducible refine wpList_load6 (.tmp 3) w.heap.size S ?_ ?_ ?_ ?_); rfl; rfl; rfl)
    | (go_at_call 72; (with_reducible refine (kindOfAt 0 _ _ _ _ _ 80 rfl _).mono ?_); rintro e w2 ⟨rfl, hb2⟩; have O2 := O.after hb2; have S2 := S.below hb2; have f0 := S2.c0; have f1 := S2.c1; have f2 := S2.c2; have f3 := S2.c3; have f4 := S2.c4; have f5 := S2.c5; clear hb2 O S)
    | (simp only [ta80_80, ta80_81, ta80_82, ta80_83, ta80_84, ta80_85, ta80_87, ta80_88, ta80_89, ta80_90, ta80_91, Result.andThen_ok])
    | (at_builtin; refine wpListB_str rfl (.tmp 10) _ rfl rfl rfl O2 (by omega) (by decide) ?_; intro A3 w3 O3 hg3; clear f0 f1 f2 f3 f4 f5 O2 S2 hg3))
  have HO := Lib.hid O3
  clear O3
  go_wp2_with fail
  go_ret
  have e2 : txtB ⟨#[110, 117, 108, 108]⟩ = nullB := rfl
  have h2 := HO.out
  rw [e2] at h2
  exact ⟨_, rfl, by unfold showP; simpa using h2⟩

set_option maxRecDepth 20000 in
set_option maxHeartbeats 6400000 in
theorem showBoolTrue (w0 w : World) (A : Value) (l : List UInt8) (n : Int) (t x : ByteArray) (p : Option Addr) (q : List Val) (cap : Nat) (hf : Fine n t x q.length) (h : OwnB w0 A l w) (hl : l.length ≤ 800000000) :
    Calls Tryz.prog 40 #[A, .agg #[.int .i64 1, .bool true, .int .i64 n, .string t, .string x, .slice p q.length cap]] w (ShowPost w0 l (.mk 1 true n t x q)) := by
  obtain ⟨W0, hW0⟩ : ∃ W0, W0 = w.alloc (.cells #[.int .i64 1, .bool true, .int .i64 n, .string t, .string x, .slice p q.length cap] 28) := ⟨_, rfl⟩
  have S : Six W0 w.heap.size 1 true n t x p q.length cap := by rw [hW0]; exact six_new _ rfl
  have O : OwnB w0 A l W0 := by rw [hW0]; exact h.alloc _
  have hlo : w0.heap.size ≤ w.heap.size := h.lo
  have H0 := Lib.hid hW0
  have HF := Lib.hid hf
  have htz := hf.ht
  have hxz := hf.hx
  clear hW0 h hf
  go_enter Tryz.func40, Tryz.ntmps40
  go_wp2_with (first
    | (rw [← H0.out]; (with_reducible refine wpList_load6 (.tmp 3) w.heap.size S ?_ ?_ ?_ ?_); rfl; rfl; rfl)
    | (go_at_call 72; (with_reducible refine (kindOfAt 1 _ _ _ _ _ 81 rfl _).mono ?_); rintro e w2 ⟨rfl, hb2⟩; have O2 := O.after hb2; have S2 := S.below hb2; have f0 := S2.c0; have f1 := S2.c1; have f2 := S2.c2; have f3 := S2.c3; have f4 := S2.c4; have f5 := S2.c5; clear hb2 O S)
    | (simp only [ta81_80, ta81_81, ta81_82, ta81_83, ta81_84, ta81_85, ta81_87, ta81_88, ta81_89, ta81_90, ta81_91, Result.andThen_ok])
    | (go_at_call 81; (with_reducible refine (appendBoolAt w0 _ _ _ true O2 (by omega)).mono ?_); rintro e w3 ⟨A3, rfl, O3, hx3⟩; clear f0 f1 f2 f3 f4 f5 O2 S2))
  have HO := Lib.hid O3
  clear O3
  go_wp2_with fail
  go_ret
  exact ⟨_, rfl, by unfold showP; simpa using HO.out⟩

set_option maxRecDepth 20000 in
set_option maxHeartbeats 6400000 in
theorem showBoolFalse (w0 w : World) (A : Value) (l : List UInt8) (n : Int) (t x : ByteArray) (p : Option Addr) (q : List Val) (cap : Nat) (hf : Fine n t x q.length) (h : OwnB w0 A l w) (hl : l.length ≤ 800000000) :
    Calls Tryz.prog 40 #[A, .agg #[.int .i64 1, .bool false, .int .i64 n, .string t, .string x, .slice p q.length cap]] w (ShowPost w0 l (.mk 1 false n t x q)) := by
  obtain ⟨W0, hW0⟩ : ∃ W0, W0 = w.alloc (.cells #[.int .i64 1, .bool false, .int .i64 n, .string t, .string x, .slice p q.length cap] 28) := ⟨_, rfl⟩
  have S : Six W0 w.heap.size 1 false n t x p q.length cap := by rw [hW0]; exact six_new _ rfl
  have O : OwnB w0 A l W0 := by rw [hW0]; exact h.alloc _
  have hlo : w0.heap.size ≤ w.heap.size := h.lo
  have H0 := Lib.hid hW0
  have HF := Lib.hid hf
  have htz := hf.ht
  have hxz := hf.hx
  clear hW0 h hf
  go_enter Tryz.func40, Tryz.ntmps40
  go_wp2_with (first
    | (rw [← H0.out]; (with_reducible refine wpList_load6 (.tmp 3) w.heap.size S ?_ ?_ ?_ ?_); rfl; rfl; rfl)
    | (go_at_call 72; (with_reducible refine (kindOfAt 1 _ _ _ _ _ 81 rfl _).mono ?_); rintro e w2 ⟨rfl, hb2⟩; have O2 := O.after hb2; have S2 := S.below hb2; have f0 := S2.c0; have f1 := S2.c1; have f2 := S2.c2; have f3 := S2.c3; have f4 := S2.c4; have f5 := S2.c5; clear hb2 O S)
    | (simp only [ta81_80, ta81_81, ta81_82, ta81_83, ta81_84, ta81_85, ta81_87, ta81_88, ta81_89, ta81_90, ta81_91, Result.andThen_ok])
    | (go_at_call 81; (with_reducible refine (appendBoolAt w0 _ _ _ false O2 (by omega)).mono ?_); rintro e w3 ⟨A3, rfl, O3, hx3⟩; clear f0 f1 f2 f3 f4 f5 O2 S2))
  have HO := Lib.hid O3
  clear O3
  go_wp2_with fail
  go_ret
  exact ⟨_, rfl, by unfold showP; simpa using HO.out⟩

set_option maxRecDepth 20000 in
set_option maxHeartbeats 6400000 in
theorem showWhole (w0 w : World) (A : Value) (l : List UInt8) (b : Bool) (n : Int) (t x : ByteArray) (p : Option Addr) (q : List Val) (cap : Nat) (hf : Fine n t x q.length) (h : OwnB w0 A l w) (hl : l.length ≤ 800000000) (hT0 : Tab w0) :
    Calls Tryz.prog 40 #[A, .agg #[.int .i64 2, .bool b, .int .i64 n, .string t, .string x, .slice p q.length cap]] w (ShowPost w0 l (.mk 2 b n t x q)) := by
  obtain ⟨W0, hW0⟩ : ∃ W0, W0 = w.alloc (.cells #[.int .i64 2, .bool b, .int .i64 n, .string t, .string x, .slice p q.length cap] 28) := ⟨_, rfl⟩
  have S : Six W0 w.heap.size 2 b n t x p q.length cap := by rw [hW0]; exact six_new _ rfl
  have O : OwnB w0 A l W0 := by rw [hW0]; exact h.alloc _
  have hlo : w0.heap.size ≤ w.heap.size := h.lo
  have H0 := Lib.hid hW0
  have HF := Lib.hid hf
  have htz := hf.ht
  have hxz := hf.hx
  have hT := Lib.hid hT0
  clear hT0
  clear hW0 h hf
  go_enter Tryz.func40, Tryz.ntmps40
  go_wp2_with (first
    | (rw [← H0.out]; (with_reducible refine wpList_load6 (.tmp 3) w.heap.size S ?_ ?_ ?_ ?_); rfl; rfl; rfl)
    | (go_at_call 72; (with_reducible refine (kindOfAt 2 _ _ _ _ _ 82 rfl _).mono ?_); rintro e w2 ⟨rfl, hb2⟩; have O2 := O.after hb2; have S2 := S.below hb2; have f0 := S2.c0; have f1 := S2.c1; have f2 := S2.c2; have f3 := S2.c3; have f4 := S2.c4; have f5 := S2.c5; clear hb2 O S)
    | (simp only [ta82_80, ta82_81, ta82_82, ta82_83, ta82_84, ta82_85, ta82_87, ta82_88, ta82_89, ta82_90, ta82_91, Result.andThen_ok])
    | (go_at_call 82; (with_reducible refine (appendIntAt w0 _ _ _ n HF.out.lo HF.out.hi O2 hT.out (by omega)).mono ?_); rintro e w3 ⟨A3, rfl, O3, hx3⟩; clear f0 f1 f2 f3 f4 f5 O2 S2))
  have HO := Lib.hid O3
  clear O3
  go_wp2_with fail
  go_ret
  exact ⟨_, rfl, by unfold showP; simpa using HO.out⟩

set_option maxRecDepth 20000 in
set_option maxHeartbeats 6400000 in
theorem showExact (w0 w : World) (A : Value) (l : List UInt8) (b : Bool) (n : Int) (t x : ByteArray) (p : Option Addr) (q : List Val) (cap : Nat) (hf : Fine n t x q.length) (h : OwnB w0 A l w) (hl : l.length ≤ 800000000) :
    Calls Tryz.prog 40 #[A, .agg #[.int .i64 3, .bool b, .int .i64 n, .string t, .string x, .slice p q.length cap]] w (ShowPost w0 l (.mk 3 b n t x q)) := by
  obtain ⟨W0, hW0⟩ : ∃ W0, W0 = w.alloc (.cells #[.int .i64 3, .bool b, .int .i64 n, .string t, .string x, .slice p q.length cap] 28) := ⟨_, rfl⟩
  have S : Six W0 w.heap.size 3 b n t x p q.length cap := by rw [hW0]; exact six_new _ rfl
  have O : OwnB w0 A l W0 := by rw [hW0]; exact h.alloc _
  have hlo : w0.heap.size ≤ w.heap.size := h.lo
  have H0 := Lib.hid hW0
  have HF := Lib.hid hf
  have htz := hf.ht
  have hxz := hf.hx
  clear hW0 h hf
  go_enter Tryz.func40, Tryz.ntmps40
  go_wp2_with (first
    | (rw [← H0.out]; (with_reducible refine wpList_load6 (.tmp 3) w.heap.size S ?_ ?_ ?_ ?_); rfl; rfl; rfl)
    | (go_at_call 72; (with_reducible refine (kindOfAt 3 _ _ _ _ _ 85 rfl _).mono ?_); rintro e w2 ⟨rfl, hb2⟩; have O2 := O.after hb2; have S2 := S.below hb2; have f0 := S2.c0; have f1 := S2.c1; have f2 := S2.c2; have f3 := S2.c3; have f4 := S2.c4; have f5 := S2.c5; clear hb2 O S)
    | (simp only [ta85_80, ta85_81, ta85_82, ta85_83, ta85_84, ta85_85, ta85_87, ta85_88, ta85_89, ta85_90, ta85_91, Result.andThen_ok])
    | (at_builtin; refine wpListB_str rfl (.tmp 37) (.tmp 39) rfl rfl rfl O2 (by omega) (by omega) ?_; intro A3 w3 O3 hg3; clear f0 f1 f2 f3 f4 f5 O2 S2 hg3))
  have HO := Lib.hid O3
  clear O3
  go_wp2_with fail
  go_ret
  exact ⟨_, rfl, by unfold showP; simpa using HO.out⟩

set_option maxRecDepth 20000 in
set_option maxHeartbeats 6400000 in
theorem showText (w0 w : World) (A : Value) (l : List UInt8) (b : Bool) (n : Int) (t x : ByteArray) (p : Option Addr) (q : List Val) (cap : Nat) (hf : Fine n t x q.length) (h : OwnB w0 A l w) (hl : l.length ≤ 800000000) :
    Calls Tryz.prog 40 #[A, .agg #[.int .i64 4, .bool b, .int .i64 n, .string t, .string x, .slice p q.length cap]] w (ShowPost w0 l (.mk 4 b n t x q)) := by
  obtain ⟨W0, hW0⟩ : ∃ W0, W0 = w.alloc (.cells #[.int .i64 4, .bool b, .int .i64 n, .string t, .string x, .slice p q.length cap] 28) := ⟨_, rfl⟩
  have S : Six W0 w.heap.size 4 b n t x p q.length cap := by rw [hW0]; exact six_new _ rfl
  have O : OwnB w0 A l W0 := by rw [hW0]; exact h.alloc _
  have hlo : w0.heap.size ≤ w.heap.size := h.lo
  have H0 := Lib.hid hW0
  have HF := Lib.hid hf
  have htz := hf.ht
  have hxz := hf.hx
  clear hW0 h hf
  go_enter Tryz.func40, Tryz.ntmps40
  go_wp2_with (first
    | (rw [← H0.out]; (with_reducible refine wpList_load6 (.tmp 3) w.heap.size S ?_ ?_ ?_ ?_); rfl; rfl; rfl)
    | (go_at_call 72; (with_reducible refine (kindOfAt 4 _ _ _ _ _ 87 rfl _).mono ?_); rintro e w2 ⟨rfl, hb2⟩; have O2 := O.after hb2; have S2 := S.below hb2; have f0 := S2.c0; have f1 := S2.c1; have f2 := S2.c2; have f3 := S2.c3; have f4 := S2.c4; have f5 := S2.c5; clear hb2 O S)
    | (simp only [ta87_80, ta87_81, ta87_82, ta87_83, ta87_84, ta87_85, ta87_87, ta87_88, ta87_89, ta87_90, ta87_91, Result.andThen_ok])
    | (at_builtin; refine wpListB_str rfl (.tmp 37) (.tmp 39) rfl rfl rfl O2 (by omega) (by omega) ?_; intro A3 w3 O3 hg3; clear f0 f1 f2 f3 f4 f5 O2 S2 hg3))
  have HO := Lib.hid O3
  clear O3
  go_wp2_with fail
  go_ret
  exact ⟨_, rfl, by unfold showP; simpa using HO.out⟩

set_option maxRecDepth 20000 in
set_option maxHeartbeats 6400000 in
theorem showLit (w0 w : World) (A : Value) (l : List UInt8) (b : Bool) (n : Int) (t x : ByteArray) (p : Option Addr) (q : List Val) (cap : Nat) (hf : Fine n t x q.length) (h : OwnB w0 A l w) (hl : l.length ≤ 800000000) :
    Calls Tryz.prog 40 #[A, .agg #[.int .i64 10, .bool b, .int .i64 n, .string t, .string x, .slice p q.length cap]] w (ShowPost w0 l (.mk 10 b n t x q)) := by
  obtain ⟨W0, hW0⟩ : ∃ W0, W0 = w.alloc (.cells #[.int .i64 10, .bool b, .int .i64 n, .string t, .string x, .slice p q.length cap] 28) := ⟨_, rfl⟩
  have S : Six W0 w.heap.size 10 b n t x p q.length cap := by rw [hW0]; exact six_new _ rfl
  have O : OwnB w0 A l W0 := by rw [hW0]; exact h.alloc _
  have hlo : w0.heap.size ≤ w.heap.size := h.lo
  have H0 := Lib.hid hW0
  have HF := Lib.hid hf
  have htz := hf.ht
  have hxz := hf.hx
  clear hW0 h hf
  go_enter Tryz.func40, Tryz.ntmps40
  go_wp2_with (first
    | (rw [← H0.out]; (with_reducible refine wpList_load6 (.tmp 3) w.heap.size S ?_ ?_ ?_ ?_); rfl; rfl; rfl)
    | (go_at_call 72; (with_reducible refine (kindOfAt 10 _ _ _ _ _ 90 rfl _).mono ?_); rintro e w2 ⟨rfl, hb2⟩; have O2 := O.after hb2; have S2 := S.below hb2; have f0 := S2.c0; have f1 := S2.c1; have f2 := S2.c2; have f3 := S2.c3; have f4 := S2.c4; have f5 := S2.c5; clear hb2 O S)
    | (simp only [ta90_80, ta90_81, ta90_82, ta90_83, ta90_84, ta90_85, ta90_87, ta90_88, ta90_89, ta90_90, ta90_91, Result.andThen_ok])
    | (at_builtin; refine wpListB_str rfl (.tmp 37) (.tmp 39) rfl rfl rfl O2 (by omega) (by omega) ?_; intro A3 w3 O3 hg3; clear f0 f1 f2 f3 f4 f5 O2 S2 hg3))
  have HO := Lib.hid O3
  clear O3
  go_wp2_with fail
  go_ret
  exact ⟨_, rfl, by unfold showP; simpa using HO.out⟩

set_option maxRecDepth 20000 in
set_option maxHeartbeats 6400000 in
theorem showStranger (w0 w : World) (A : Value) (l : List UInt8) (k : Int) (b : Bool) (n : Int) (t x : ByteArray) (p : Option Addr) (q : List Val) (cap : Nat) (hf : Fine n t x q.length) (h : OwnB w0 A l w) (hl : l.length ≤ 800000000) (hk : kindT k = 124) :
    Calls Tryz.prog 40 #[A, .agg #[.int .i64 k, .bool b, .int .i64 n, .string t, .string x, .slice p q.length cap]] w (ShowPost w0 l (.mk k b n t x q)) := by
  obtain ⟨W0, hW0⟩ : ∃ W0, W0 = w.alloc (.cells #[.int .i64 k, .bool b, .int .i64 n, .string t, .string x, .slice p q.length cap] 28) := ⟨_, rfl⟩
  have S : Six W0 w.heap.size k b n t x p q.length cap := by rw [hW0]; exact six_new _ rfl
  have O : OwnB w0 A l W0 := by rw [hW0]; exact h.alloc _
  have hlo : w0.heap.size ≤ w.heap.size := h.lo
  have H0 := Lib.hid hW0
  have HF := Lib.hid hf
  have htz := hf.ht
  have hxz := hf.hx
  clear hW0 h hf
  go_enter Tryz.func40, Tryz.ntmps40
  go_wp2_with (first
    | (rw [← H0.out]; (with_reducible refine wpList_load6 (.tmp 3) w.heap.size S ?_ ?_ ?_ ?_); rfl; rfl; rfl)
    | (go_at_call 72; (with_reducible refine (kindOfAt k _ _ _ _ _ 124 hk.symm _).mono ?_); rintro e w2 ⟨rfl, hb2⟩; have O2 := O.after hb2; have S2 := S.below hb2; have f0 := S2.c0; have f1 := S2.c1; have f2 := S2.c2; have f3 := S2.c3; have f4 := S2.c4; have f5 := S2.c5; clear hb2 O S)
    | (simp only [ta124_80, ta124_81, ta124_82, ta124_83, ta124_84, ta124_85, ta124_87, ta124_88, ta124_89, ta124_90, ta124_91, Result.andThen_ok]))
  have HO := Lib.hid O2
  clear O2
  go_wp2_with fail
  go_ret
  exact ⟨_, rfl, by have hk2 := strange hk; unfold showP; simpa [hk2] using HO.out⟩

end Go.Proofs.YtoifjjgakblhhaaGreatDoor
