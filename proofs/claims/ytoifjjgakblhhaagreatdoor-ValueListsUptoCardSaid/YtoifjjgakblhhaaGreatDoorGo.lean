/- Texts of one kind, one behind the other: each says ahead of itself what it shows. -/
import Derived.Test.YtoifjjgakblhhaaGreatDoorGm
import Derived.Deep.MidRow
/- Values in one another: the model, where one lies in memory, which may be. -/
namespace Go.Proofs.YtoifjjgakblhhaaGreatDoor
open Go.RowKit

/-- A value: kind, bool, number, text, extra, list. -/
inductive Val where
  | mk (k : Int) (b : Bool) (n : Int) (t x : ByteArray) (l : List Val)

/-- What is small enough, and a number that fits. -/
structure Fine (n : Int) (t x : ByteArray) (len : Nat) : Prop where
  ht : t.size ≤ 2097152
  hx : x.size ≤ 2097152
  hn : len ≤ 2097152
  lo : -9223372036854775808 ≤ n
  hi : n ≤ 9223372036854775807

mutual
/-- A value's six cells lie from off on. -/
def HoldsOne (w : World) (g off : Nat) : Val → Prop
  | .mk k b n t x l => w.cell? ⟨g, off, none⟩ = some (.int .i64 k) ∧ w.cell? ⟨g, off + 1, none⟩ = some (.bool b) ∧ w.cell? ⟨g, off + 2, none⟩ = some (.int .i64 n) ∧
    w.cell? ⟨g, off + 3, none⟩ = some (.string t) ∧ w.cell? ⟨g, off + 4, none⟩ = some (.string x) ∧ Fine n t x l.length ∧
    ∃ L, w.cell? ⟨g, off + 5, none⟩ = some L ∧ Held w L l
/-- A slice whose elements are these. -/
def Held (w : World) (L : Value) : List Val → Prop
  | [] => ∃ p cap, L = .slice p 0 cap
  | v :: r => ∃ g off cap, L = .slice (some ⟨g, off, none⟩) (r.length + 1) cap ∧ HoldsOne w g off v ∧ Holds w g (off + 6) r
/-- Values one behind the other from off on. -/
def Holds (w : World) (g off : Nat) : List Val → Prop
  | [] => True
  | v :: r => HoldsOne w g off v ∧ Holds w g (off + 6) r
end

mutual
theorem HoldsOne.below {w w' : World} {g off : Nat} : (v : Val) → HoldsOne w g off v → Below w.heap.size w w' → HoldsOne w' g off v
  | .mk _ _ _ _ _ l, h, q => by
    unfold HoldsOne at h ⊢
    obtain ⟨h0, h1, h2, h3, h4, hf, L, h5, hl⟩ := h
    have hg := World.block_lt_of_cell? w _ h0
    exact ⟨(q.cell (p := ⟨g, off, none⟩) hg).trans h0, (q.cell (p := ⟨g, off + 1, none⟩) hg).trans h1, (q.cell (p := ⟨g, off + 2, none⟩) hg).trans h2, (q.cell (p := ⟨g, off + 3, none⟩) hg).trans h3,
      (q.cell (p := ⟨g, off + 4, none⟩) hg).trans h4, hf, L, (q.cell (p := ⟨g, off + 5, none⟩) hg).trans h5, Held.below l hl q⟩
theorem Held.below {w w' : World} {L : Value} : (l : List Val) → Held w L l → Below w.heap.size w w' → Held w' L l
  | [], h, _ => by
    unfold Held at h ⊢
    exact h
  | v :: r, h, q => by
    unfold Held at h ⊢
    obtain ⟨g, off, cap, e, hv, hr⟩ := h
    exact ⟨g, off, cap, e, HoldsOne.below v hv q, Holds.below r hr q⟩
theorem Holds.below {w w' : World} {g off : Nat} : (l : List Val) → Holds w g off l → Below w.heap.size w w' → Holds w' g off l
  | [], _, _ => by
    unfold Holds
    trivial
  | v :: r, h, q => by
    unfold Holds at h ⊢
    exact ⟨HoldsOne.below v h.1 q, Holds.below r h.2 q⟩
end

mutual
/-- Whether a value may be that lies in d lists. -/
def mayP : Val → Nat → Bool
  | .mk k b n t x l, d => fitsP k b n t x l.length (decide (l.length ≤ 4096) && decide (d + 1 ≤ 60) && eachP l (d + 1))
def eachP : List Val → Nat → Bool
  | [], _ => true
  | v :: r, d => mayP v d && eachP r d
end
end Go.Proofs.YtoifjjgakblhhaaGreatDoor

/- Whether values in one another may be. -/
namespace Go.Proofs.YtoifjjgakblhhaaGreatDoor
open Go.RowKit

theorem range6 {w : World} {g off : Nat} {a b c d e f : Value} (h0 : w.cell? ⟨g, off, none⟩ = some a) (h1 : w.cell? ⟨g, off + 1, none⟩ = some b) (h2 : w.cell? ⟨g, off + 2, none⟩ = some c)
    (h3 : w.cell? ⟨g, off + 3, none⟩ = some d) (h4 : w.cell? ⟨g, off + 4, none⟩ = some e) (h5 : w.cell? ⟨g, off + 5, none⟩ = some f) : w.rangeAt g off [a, b, c, d, e, f] := by
  intro j v hv
  match j, hv with
  | 0, e => cases e; exact h0
  | 1, e => cases e; exact h1
  | 2, e => cases e; exact h2
  | 3, e => cases e; exact h3
  | 4, e => cases e; exact h4
  | 5, e => cases e; exact h5
  | j + 6, e => simp at e
theorem wpList_loadMid6 {ops : Array Oper} {rest : List Oper} {o : Oper} {a : Act} {w : World} {Q : Exit → Act → World → Prop} (y : Operand) (g off : Nat) (k : Int) (b : Bool) (n : Int) (t x : ByteArray) (L : Value)
    (h0 : w.cell? ⟨g, off, none⟩ = some (.int .i64 k)) (h1 : w.cell? ⟨g, off + 1, none⟩ = some (.bool b)) (h2 : w.cell? ⟨g, off + 2, none⟩ = some (.int .i64 n))
    (h3 : w.cell? ⟨g, off + 3, none⟩ = some (.string t)) (h4 : w.cell? ⟨g, off + 4, none⟩ = some (.string x)) (h5 : w.cell? ⟨g, off + 5, none⟩ = some L)
    (hgd : o.guard = none) (ho : o.op = .load 28 y) (hx : a.eval y = .pointer (some ⟨g, off, none⟩))
    (h : wpList Tryz.prog ops Q rest (a.put o.dst (.agg #[.int .i64 k, .bool b, .int .i64 n, .string t, .string x, L])) w) : wpList Tryz.prog ops Q (o :: rest) a w :=
  wpList_load_mid hgd 28 y ho g off hx [.int .i64 k, .bool b, .int .i64 n, .string t, .string x, L] _ (range6 h0 h1 h2 h3 h4 h5) Tryz.underlying28 rfl info28 h
end Go.Proofs.YtoifjjgakblhhaaGreatDoor

/- Whether each of a list may be. -/
namespace Go.Proofs.YtoifjjgakblhhaaGreatDoor
open Go.RowKit

theorem Holds.at_ {w : World} {g : Nat} : (l : List Val) → (off : Nat) → Holds w g off l → ∀ (i : Nat) (h : i < l.length), HoldsOne w g (off + i * 6) l[i]
  | [], _, _, i, h => absurd h (by simp)
  | v :: r, off, hh, i, h => by
    unfold Holds at hh
    match i, h with
    | 0, _ => rw [Nat.zero_mul]; exact hh.1
    | i + 1, h =>
      have := Holds.at_ r (off + 6) hh.2 i (by simpa using h)
      rw [show off + (i + 1) * 6 = off + 6 + i * 6 by omega]
      exact this
theorem eachP_no : (l : List Val) → (d : Nat) → ∀ (i : Nat) (h : i < l.length), mayP l[i] d = false → eachP l d = false
  | [], _, i, h, _ => absurd h (by simp)
  | v :: r, d, i, h, e => by
    unfold eachP
    match i, h with
    | 0, _ => rw [show mayP v d = false from e]; rfl
    | i + 1, h => rw [eachP_no r d i (by simpa using h) e, Bool.and_false]
theorem eachP_yes : (l : List Val) → (d : Nat) → (∀ (i : Nat) (h : i < l.length), mayP l[i] d = true) → eachP l d = true
  | [], _, _ => by unfold eachP; rfl
  | v :: r, d, e => by
    unfold eachP
    rw [show mayP v d = true from e 0 (by simp), eachP_yes r d fun i h => e (i + 1) (by simpa using h)]
    rfl

/-- What mayBe answers of a value that lies somewhere. -/
def MayBeAt (v : Val) (d : Nat) : Prop := ∀ (W : World) (k : Int) (b : Bool) (n : Int) (t x : ByteArray) (l : List Val) (L : Value), v = .mk k b n t x l → Gd W → t.size ≤ 2097152 → x.size ≤ 2097152 → Held W L l →
  Calls Tryz.prog 38 #[.agg #[.int .i64 k, .bool b, .int .i64 n, .string t, .string x, L], .int .i64 d] W fun e w' => e = .returned (.bool (mayP v d)) ∧ Below W.heap.size W w'

set_option maxHeartbeats 1600000 in
theorem allMayAt (l : List Val) (g off cap d : Nat) (w : World) (hG : Gd w) (hl : Holds w g off l) (h1 : l.length ≤ 4096) (h2 : d ≤ 60) (each : ∀ v ∈ l, MayBeAt v d) :
    Calls Tryz.prog 76 #[.slice (some ⟨g, off, none⟩) l.length cap, .int .i64 d] w fun e w' => e = .returned (.bool (eachP l d)) ∧ Below w.heap.size w w' := by
  have a1 : (l.length : Int) ≤ 4096 := by omega
  have a2 : (d : Int) ≤ 60 := by omega
  have HH := Lib.hid hl
  have HE := Lib.hid each
  clear hl each
  go_enter Tryz.func76, Tryz.ntmps76
  go_wp2_with fail
  go_loopw [16] (fun i wr => ∃ j : Nat, j ≤ l.length ∧ i = .int .i64 j ∧ Below w.heap.size w wr ∧ ∀ (i : Nat) (h : i < l.length), i < j → mayP l[i] d = true) (fun i _ => l.length - (intOf i).toNat)
  case atStart => exact ⟨0, Nat.zero_le _, rfl, Below.refl _ _, fun _ _ h => absurd h (by omega)⟩
  case round =>
    obtain ⟨j, hj, rfl, hb, hall⟩ := hrel
    have HA := Lib.hid hall
    clear hall
    by_cases hlt : j < l.length
    · have ho := (Holds.at_ l off HH.out j hlt).below _ hb
      have hev := HE.out l[j] (List.getElem_mem hlt)
      obtain ⟨k, b, n, t, x, q, ev⟩ : ∃ k b n t x q, l[j] = Val.mk k b n t x q := by cases l[j] with | mk k b n t x q => exact ⟨k, b, n, t, x, q, rfl⟩
      rw [ev] at ho
      unfold HoldsOne at ho
      obtain ⟨c0, c1, c2, c3, c4, hf, L, c5, hL⟩ := ho
      have ht := hf.ht
      have hx := hf.hx
      clear hf
      obtain ⟨p, len, cp, rfl⟩ : ∃ p len cp, L = .slice p len cp := by
        cases q with
        | nil => unfold Held at hL; obtain ⟨p, cp, e⟩ := hL; exact ⟨p, 0, cp, e⟩
        | cons v r => unfold Held at hL; obtain ⟨g', off', cp, e, _⟩ := hL; exact ⟨_, _, _, e⟩
      have gr := hG.below hb
      cases hr : mayP l[j] d with
      | true =>
        have hc := (hev (wr.alloc (.cells #[.int .i64 k, .bool b, .int .i64 n, .string t, .string x, .slice p len cp] 28)) k b n t x q (.slice p len cp) ev (gr.alloc _) ht hx (Held.below q hL (below1 _ _)))
        rw [hr] at hc
        have hs : w.heap.size ≤ wr.heap.size := hb.size
        have l0 : Six (wr.alloc (.cells #[.int .i64 k, .bool b, .int .i64 n, .string t, .string x, .slice p len cp] 28)) wr.heap.size k b n t x p len cp := six_new _ rfl
        have b0 : Below w.heap.size w (wr.alloc (.cells #[.int .i64 k, .bool b, .int .i64 n, .string t, .string x, .slice p len cp] 28)) := hb.alloc hs _
        have z0 : w.heap.size ≤ (wr.alloc (.cells #[.int .i64 k, .bool b, .int .i64 n, .string t, .string x, .slice p len cp] 28)).heap.size := by have := l0.lt; omega
        go_wp2_with (first
          | ((with_reducible refine wpList_loadMid6 (.tmp 18) g (off + j * 6) k b n t x (.slice p len cp) c0 c1 c2 c3 c4 c5 ?_ ?_ ?_ ?_); rfl; rfl; rfl)
          | ((with_reducible refine wpList_load6 (.tmp 6) wr.heap.size l0 ?_ ?_ ?_ ?_); rfl; rfl; rfl)
          | (go_at_call 38; (with_reducible refine hc.mono ?_); rintro e w3 ⟨rfl, hb3⟩; have b3 := below_any b0 hb3 z0))
        go_roundw
        case rel =>
          refine ⟨j + 1, by omega, by go_num, b3, fun i hi hlt' => ?_⟩
          by_cases e : i = j
          · subst e; exact hr
          · exact HA.out i hi (by omega)
        case measure => simp [intOf]; omega
      | false =>
        have hc := (hev (wr.alloc (.cells #[.int .i64 k, .bool b, .int .i64 n, .string t, .string x, .slice p len cp] 28)) k b n t x q (.slice p len cp) ev (gr.alloc _) ht hx (Held.below q hL (below1 _ _)))
        rw [hr] at hc
        have hs : w.heap.size ≤ wr.heap.size := hb.size
        have l0 : Six (wr.alloc (.cells #[.int .i64 k, .bool b, .int .i64 n, .string t, .string x, .slice p len cp] 28)) wr.heap.size k b n t x p len cp := six_new _ rfl
        have b0 : Below w.heap.size w (wr.alloc (.cells #[.int .i64 k, .bool b, .int .i64 n, .string t, .string x, .slice p len cp] 28)) := hb.alloc hs _
        have z0 : w.heap.size ≤ (wr.alloc (.cells #[.int .i64 k, .bool b, .int .i64 n, .string t, .string x, .slice p len cp] 28)).heap.size := by have := l0.lt; omega
        go_wp2_with (first
          | ((with_reducible refine wpList_loadMid6 (.tmp 18) g (off + j * 6) k b n t x (.slice p len cp) c0 c1 c2 c3 c4 c5 ?_ ?_ ?_ ?_); rfl; rfl; rfl)
          | ((with_reducible refine wpList_load6 (.tmp 6) wr.heap.size l0 ?_ ?_ ?_ ?_); rfl; rfl; rfl)
          | (go_at_call 38; (with_reducible refine hc.mono ?_); rintro e w3 ⟨rfl, hb3⟩; have b3 := below_any b0 hb3 z0))
        go_ret
        exact ⟨by rw [eachP_no l d j hlt hr]; rfl, b3⟩
    · go_wp2_with fail
      go_ret
      exact ⟨by rw [eachP_yes l d fun i h => HA.out i h (by omega)]; rfl, hb⟩
end Go.Proofs.YtoifjjgakblhhaaGreatDoor

/- Whether a value may be: the program's answer, for values in one another. -/
namespace Go.Proofs.YtoifjjgakblhhaaGreatDoor
open Go.RowKit

theorem held_slice {W : World} {L : Value} {l : List Val} (h : Held W L l) : ∃ p cap, L = .slice p l.length cap := by
  cases l with
  | nil => unfold Held at h; exact h
  | cons v r => unfold Held at h; obtain ⟨g, off, cap, e, _⟩ := h; exact ⟨_, cap, e⟩

theorem allBig (p : Option Addr) (len cap : Nat) (d : Int) (w : World) (h : (4096 : Int) < len) :
    Calls Tryz.prog 76 #[.slice p len cap, .int .i64 d] w fun e w' => e = .returned (.bool false) ∧ Below w.heap.size w w' := by
  go_enter Tryz.func76, Tryz.ntmps76
  go_wp2_with fail
  go_ret
  exact ⟨rfl, Below.refl _ _⟩
theorem allDeep (p : Option Addr) (len cap : Nat) (d : Int) (w : World) (h : ¬ (4096 : Int) < len) (h2 : 60 < d) :
    Calls Tryz.prog 76 #[.slice p len cap, .int .i64 d] w fun e w' => e = .returned (.bool false) ∧ Below w.heap.size w w' := by
  go_enter Tryz.func76, Tryz.ntmps76
  go_wp2_with fail
  go_ret
  exact ⟨rfl, Below.refl _ _⟩
theorem allNone (p : Option Addr) (cap : Nat) (d : Int) (w : World) (h2 : ¬ 60 < d) :
    Calls Tryz.prog 76 #[.slice p 0 cap, .int .i64 d] w fun e w' => e = .returned (.bool true) ∧ Below w.heap.size w w' := by
  go_enter Tryz.func76, Tryz.ntmps76
  go_wp2_with fail
  go_loopw [16] (fun i wr => i = .int .i64 0 ∧ wr = w) (fun _ _ => 0)
  case atStart => exact ⟨rfl, rfl⟩
  case round =>
    obtain ⟨rfl, rfl⟩ := hrel
    go_wp2_with fail
    go_ret
    exact ⟨rfl, Below.refl _ _⟩

theorem allAny (l : List Val) (L : Value) (d : Nat) (w : World) (hG : Gd w) (hl : Held w L l) (each : d ≤ 60 → ∀ v ∈ l, MayBeAt v d) :
    Calls Tryz.prog 76 #[L, .int .i64 d] w fun e w' => e = .returned (.bool (decide (l.length ≤ 4096) && decide (d ≤ 60) && eachP l d)) ∧ Below w.heap.size w w' := by
  obtain ⟨p, cap, rfl⟩ := held_slice hl
  by_cases h1 : l.length ≤ 4096
  · rw [decide_eq_true h1, Bool.true_and]
    by_cases h2 : d ≤ 60
    · rw [decide_eq_true h2, Bool.true_and]
      cases l with
      | nil =>
        unfold eachP
        exact allNone p cap d w (by omega)
      | cons v r =>
        unfold Held at hl
        obtain ⟨g, off, cap', e, hv, hr⟩ := hl
        cases e
        refine allMayAt (v :: r) g off cap d w hG ?_ h1 h2 (each h2)
        unfold Holds
        exact ⟨hv, hr⟩
    · rw [decide_eq_false h2, Bool.false_and]
      exact allDeep p _ cap d w (by omega) (by omega)
  · rw [decide_eq_false h1, Bool.false_and, Bool.false_and]
    exact allBig p _ cap d w (by omega)

theorem mayBe_step (d : Nat) (hd : d ≤ 60) (next : d + 1 ≤ 60 → ∀ v, MayBeAt v (d + 1)) (v : Val) : MayBeAt v d := by
  intro W k b n t x l L e hG ht hx hL
  subst e
  obtain ⟨p, cap, rfl⟩ := held_slice hL
  unfold mayP
  refine mayBeOf k b n t x p l.length cap d W _ hG (by omega) (by omega) (by omega) (by omega) fun _ W' hb => ?_
  have := allAny l _ (d + 1) W' (hG.below hb) (Held.below l hL hb) fun h v _ => next h v
  simpa using this
theorem mayBeAll : ∀ (m d : Nat), m + d = 60 → ∀ v, MayBeAt v d
  | 0, d, e, v => mayBe_step d (by omega) (fun h => absurd h (by omega)) v
  | m + 1, d, e, v => mayBe_step d (by omega) (fun _ => mayBeAll m (d + 1) (by omega)) v

/-- Check answers mayP, of any value that lies whole in memory. -/
theorem checkAtV (v : Val) (k : Int) (b : Bool) (n : Int) (t x : ByteArray) (l : List Val) (L : Value) (W : World) (e : v = .mk k b n t x l) (hG : Gd W) (ht : t.size ≤ 2097152) (hx : x.size ≤ 2097152) (hL : Held W L l) :
    Calls Tryz.prog 13 #[.agg #[.int .i64 k, .bool b, .int .i64 n, .string t, .string x, L]] W fun e w' => e = .returned (.bool (mayP v 0)) ∧ Below W.heap.size W w' := by
  obtain ⟨p, cap, rfl⟩ := held_slice hL
  have l0 : Six (W.alloc (.cells #[.int .i64 k, .bool b, .int .i64 n, .string t, .string x, .slice p l.length cap] 28)) W.heap.size k b n t x p l.length cap := six_new _ rfl
  have b0 := below1 W (.cells #[.int .i64 k, .bool b, .int .i64 n, .string t, .string x, .slice p l.length cap] 28)
  have hc : Calls Tryz.prog 38 #[.agg #[.int .i64 k, .bool b, .int .i64 n, .string t, .string x, .slice p l.length cap], .int .i64 0] (W.alloc (.cells #[.int .i64 k, .bool b, .int .i64 n, .string t, .string x, .slice p l.length cap] 28)) _ :=
    mayBeAll 60 0 rfl v _ k b n t x l _ e (hG.alloc _) ht hx (Held.below l hL b0)
  go_enter Tryz.func13, Tryz.ntmps13
  go_wp2_with (first
    | ((with_reducible refine wpList_load6 (.tmp 1) W.heap.size l0 ?_ ?_ ?_ ?_); rfl; rfl; rfl)
    | (go_at_call 38; (with_reducible refine hc.mono ?_); rintro e w' ⟨rfl, hb⟩; have b3 := below_any b0 hb (Nat.le_of_lt l0.lt)))
  go_ret
  exact ⟨by first | rfl | (subst e; rfl), b3⟩
end Go.Proofs.YtoifjjgakblhhaaGreatDoor
