/- The law of takes: its two columns, and its rows of numbers. -/
import Derived.Test.YtffbcccbhofbpaaDoorH0
import Derived.Test.YtffbcccbhofbpaaDoorC7
import Derived.Test.YtffbcccbhofbpaaDoorC9
import Derived.Test.YtffbcccbhofbpaaDoorF0
namespace Go.Proofs.YtffbcccbhofbpaaDoor
open Go.RowKit

def xT : ByteArray := ⟨#[120]⟩
def yT : ByteArray := ⟨#[121]⟩
def colP (C : Nat → Int × Bool) (k : Nat) : List (Option (Int × ByteArray)) := (List.range k).map fun i => if (C i).2 then none else some ((i : Int), yT)
def colS (C : Nat → Int × Bool) (k : Nat) : List (Option ByteArray) := (List.range k).map fun i => if (C i).2 then none else some xT
theorem colP_succ (C : Nat → Int × Bool) (k : Nat) : colP C (k + 1) = colP C k ++ [if (C k).2 then none else some ((k : Int), yT)] := by simp [colP, List.range_succ]
theorem colS_succ (C : Nat → Int × Bool) (k : Nat) : colS C (k + 1) = colS C k ++ [if (C k).2 then none else some xT] := by simp [colS, List.range_succ]
theorem colP_length (C : Nat → Int × Bool) (k : Nat) : (colP C k).length = k := by simp [colP]
theorem colS_length (C : Nat → Int × Bool) (k : Nat) : (colS C k).length = k := by simp [colS]
theorem colS_none (C : Nat → Int × Bool) (k : Nat) : (colS C k).map Option.isNone = (colP C k).map Option.isNone := by
  simp only [colS, colP, List.map_map]
  apply List.map_congr_left
  intro i _
  simp only [Function.comp]
  cases (C i).2 <;> rfl
theorem colS_some (C : Nat → Int × Bool) (k i : Nat) (h : i < k) : ((colS C k).getD i none).isSome = ((colP C k).getD i none).isSome := by
  rw [List.getD_eq_getElem?_getD, List.getD_eq_getElem?_getD]
  simp only [colS, colP, List.getElem?_map, List.getElem?_range h, Option.map_some, Option.getD_some]
  cases (C i).2 <;> rfl
theorem getD_get {α : Type} (xs : List (Option α)) (i : Nat) (h : i < xs.length) : xs[i]? = some (xs.getD i none) := by
  rw [List.getD_eq_getElem?_getD, List.getElem?_eq_getElem h]; rfl
/-- The two columns of the law. -/
structure PI (W0 w : World) (ga gb : Nat) (xs : List (Option ByteArray)) (ys : List (Option (Int × ByteArray))) (Fa Fb : Nat → Prop) : Prop where
  a : ColStr w ga xs Fa
  b : ColPair w gb ys Fb
  ap : ∀ i, Fa i → ¬ Fb i
  la : ∀ i, Fa i → W0.heap.size ≤ i
  lb : ∀ i, Fb i → W0.heap.size ≤ i
  bel : Below W0.heap.size W0 w
section
variable {W0 w w' : World} {ga gb : Nat} {xs xs' : List (Option ByteArray)} {ys ys' : List (Option (Int × ByteArray))} {Fa Fb F' : Nat → Prop}
theorem PI.turnA (h : PI W0 w ga gb xs ys Fa Fb) (t : Turn Fa F' w w') (a' : ColStr w' ga xs' F') : PI W0 w' ga gb xs' ys F' Fb :=
  ⟨a', h.b.ch t.ch (fun i q p => h.ap i p q), turn_apart t h.ap (fun _ => h.b.lt), turn_low t h.bel.size h.la, h.lb, h.bel.trans (t.ch.below h.bel.size h.la)⟩
theorem PI.turnB (h : PI W0 w ga gb xs ys Fa Fb) (t : Turn Fb F' w w') (b' : ColPair w' gb ys' F') : PI W0 w' ga gb xs ys' Fa F' :=
  ⟨h.a.ch t.ch h.ap, b', fun i p q => turn_apart t (fun i p q => h.ap i q p) (fun _ => h.a.lt) i q p, h.la, turn_low t h.bel.size h.lb, h.bel.trans (t.ch.below h.bel.size h.lb)⟩
theorem PI.below (h : PI W0 w ga gb xs ys Fa Fb) (b : Below w.heap.size w w') : PI W0 w' ga gb xs ys Fa Fb :=
  ⟨h.a.below b, h.b.below b, h.ap, h.la, h.lb, below_any h.bel b h.bel.size⟩
end
def nv (l : List Nat) : List Value := l.map fun n : Nat => Value.int .i64 (n : Int)
theorem nv_snoc (l : List Nat) (x : Nat) : nv (l ++ [x]) = nv l ++ [.int .i64 (x : Int)] := by simp [nv]
/-- A row of numbers of the law's own, in blocks from S on. -/
structure RI (S : Nat) (w : World) (v : Value) (l : List Nat) : Prop where
  row : w.ownsRow 0 3 1 v l.length (nv l)
  low : ∀ i, v.ownBlock = some i → S ≤ i
theorem RI.nil (S : Nat) (w : World) : RI S w (.slice none 0 0) [] := ⟨World.ownsRow_nil _ _ _ _, fun i q => by simp [Value.ownBlock] at q⟩
theorem RI.below {S : Nat} {w w' : World} {v : Value} {l : List Nat} (h : RI S w v l) (b : Below w.heap.size w w') : RI S w' v l := ⟨row_keep h.row fun i q => b.block i (row_lt h.row q), h.low⟩
theorem RI.ch {S : Nat} {w w' : World} {v : Value} {l : List Nat} {F : Nat → Prop} (h : RI S w v l) (c : Ch F w w') (d : ∀ i, v.ownBlock = some i → ¬ F i) : RI S w' v l := ⟨row_keep h.row fun i q => c.block i (row_lt h.row q) (d i q), h.low⟩
theorem RI.app {S : Nat} {w z w' : World} {v v' : Value} {l : List Nat} {x : Nat} (h : RI S w v l) (hS : S ≤ w.heap.size) (hz : Below w.heap.size w z) (hg : z.grownBy w' v.ownBlock) (hr : w'.ownsRow 0 3 1 v' (l.length + 1) (nv l ++ [.int .i64 (x : Int)])) (hat : v'.ownBlock = v.ownBlock ∨ v'.ownBlock = some z.heap.size) :
    RI S w' v' (l ++ [x]) ∧ Ch (fun i => v.ownBlock = some i) w w' ∧ ∀ i, v'.ownBlock = some i → v.ownBlock = some i ∨ w.heap.size ≤ i := by
  have ft := foot_of hat
  have zl := hz.size
  refine ⟨⟨by rw [nv_snoc, List.length_append]; exact hr, fun i q => ?_⟩, (Ch.of_below (F := fun i => v.ownBlock = some i) hz).trans (G := fun i => v.ownBlock = some i) ((Ch.of_grown hg).mono fun i _ e => e) (fun _ _ e => e), fun i q => (ft i q).imp id (fun e => by omega)⟩
  rcases ft i q with e | e
  · exact h.low i e
  · omega
theorem RI.intl {S : Nat} {w : World} {p : Option Addr} {n cap : Nat} {l : List Nat} (h : RI S w (.slice p n cap) l) : IntL w p l.length (fun k => ((l.getD k 0 : Nat) : Int)) := fun k hk => by
  obtain ⟨r, c, e, _, hc⟩ := row_cell h.row k hk
  have hn : Value.slice p n cap = .slice (some ⟨r, 0, none⟩) l.length c := e
  cases hn
  refine ⟨r, 0, rfl, ?_⟩
  rw [Nat.zero_add, hc]
  simp only [nv, List.getElem?_map, List.getD_eq_getElem?_getD, List.getElem?_eq_getElem hk]
  rfl
/-- The odd numbers below k; the numbers below k; the numbers below L from above. -/
def od (k : Nat) : List Nat := (List.range k).filter fun i => i % 2 == 1
theorem od_succ (k : Nat) : od (k + 1) = if k % 2 = 1 then od k ++ [k] else od k := by
  simp only [od, List.range_succ, List.filter_append, List.filter_cons, List.filter_nil]
  by_cases h : k % 2 = 1 <;> simp [h]
theorem od_lt (k i : Nat) (h : i < (od k).length) : (od k).getD i 0 < k := by
  rw [List.getD_eq_getElem?_getD, List.getElem?_eq_getElem h]
  have := List.getElem_mem h
  unfold od at this
  have h2 := (List.mem_filter.1 this).1
  exact List.mem_range.1 h2
theorem od_len (k : Nat) : (od k).length ≤ k := by
  have := List.length_filter_le (fun i : Nat => i % 2 == 1) (List.range k)
  unfold od; simpa using this
theorem range_snoc (k : Nat) : List.range (k + 1) = List.range k ++ [k] := List.range_succ
def ls (L j : Nat) : List Nat := (List.range j).map fun t => L - 1 - t
theorem ls_succ (L j : Nat) : ls L (j + 1) = ls L j ++ [L - 1 - j] := by simp [ls, List.range_succ]
theorem ls_length (L j : Nat) : (ls L j).length = j := by simp [ls]
theorem ls_get (L k : Nat) (h : k < L) : (ls L L).getD k 0 = L - 1 - k := by simp [ls, List.getD_eq_getElem?_getD, h]
theorem range_get (M k : Nat) (h : k < M) : (List.range M).getD k 0 = k := by simp [List.getD_eq_getElem?_getD, h]
/-- All taken in order: the same. -/
theorem tk_all {α : Type} (xs : List (Option α)) : tk xs (fun k => (((List.range xs.length).getD k 0 : Nat) : Int)) xs.length = xs := by
  apply List.ext_getElem?
  intro i
  by_cases h : i < xs.length
  · rw [tk_get _ _ _ _ h]
    have e : ((((List.range xs.length).getD i 0 : Nat) : Int)).toNat = i := by rw [range_get _ _ h]; simp
    rw [e, getD_get xs i h]
  · rw [List.getElem?_eq_none (by rw [tk_length]; omega), List.getElem?_eq_none (by omega)]
end Go.Proofs.YtffbcccbhofbpaaDoor
