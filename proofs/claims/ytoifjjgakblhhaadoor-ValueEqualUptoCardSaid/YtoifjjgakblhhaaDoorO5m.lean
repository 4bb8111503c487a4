/- Whether a value may be: the program's answer, for values in one another. -/
import Derived.Test.YtoifjjgakblhhaaDoorO4m
namespace Go.Proofs.YtoifjjgakblhhaaDoor
open Go.RowKit

theorem held_slice {W : World} {L : Value} {l : List Val} (h : Held W L l) : ∃ p cap, L = .slice p l.length cap := by
  cases l with
  | nil => unfold Held at h; exact h
  | cons v r => unfold Held at h; obtain ⟨g, off, cap, e, _⟩ := h; exact ⟨_, cap, e⟩

theorem allBig (p : Option Addr) (len cap : Nat) (d : Int) (w : World) (h : (4096 : Int) < len) :
    Calls Tryd.prog 33 #[.slice p len cap, .int .i64 d] w fun e w' => e = .returned (.bool false) ∧ Below w.heap.size w w' := by
  go_enter Tryd.func33, Tryd.ntmps33
  go_wp2_with fail
  go_ret
  exact ⟨rfl, Below.refl _ _⟩
theorem allDeep (p : Option Addr) (len cap : Nat) (d : Int) (w : World) (h : ¬ (4096 : Int) < len) (h2 : 60 < d) :
    Calls Tryd.prog 33 #[.slice p len cap, .int .i64 d] w fun e w' => e = .returned (.bool false) ∧ Below w.heap.size w w' := by
  go_enter Tryd.func33, Tryd.ntmps33
  go_wp2_with fail
  go_ret
  exact ⟨rfl, Below.refl _ _⟩
theorem allNone (p : Option Addr) (cap : Nat) (d : Int) (w : World) (h2 : ¬ 60 < d) :
    Calls Tryd.prog 33 #[.slice p 0 cap, .int .i64 d] w fun e w' => e = .returned (.bool true) ∧ Below w.heap.size w w' := by
  go_enter Tryd.func33, Tryd.ntmps33
  go_wp2_with fail
  go_loopw [16] (fun i wr => i = .int .i64 0 ∧ wr = w) (fun _ _ => 0)
  case atStart => exact ⟨rfl, rfl⟩
  case round =>
    obtain ⟨rfl, rfl⟩ := hrel
    go_wp2_with fail
    go_ret
    exact ⟨rfl, Below.refl _ _⟩

theorem allAny (l : List Val) (L : Value) (d : Nat) (w : World) (hG : Gd w) (hl : Held w L l) (each : d ≤ 60 → ∀ v ∈ l, MayBeAt v d) :
    Calls Tryd.prog 33 #[L, .int .i64 d] w fun e w' => e = .returned (.bool (decide (l.length ≤ 4096) && decide (d ≤ 60) && eachP l d)) ∧ Below w.heap.size w w' := by
  obtain ⟨p, cap, rfl⟩ := held_slice hl
  by_cases h1 : l.length ≤ 4096
  · rw [decide_eq_true h1, Bool.true_and]
    by_cases h2 : d ≤ 60
    · rw [decide_eq_true h2, Bool.true_and]
      cases l with
      | nil =>
        unfold eachP
        exact allNone p cap d w (by omega)
      | cons v r =>
        unfold Held at hl
        obtain ⟨g, off, cap', e, hv, hr⟩ := hl
        cases e
        refine allMayAt (v :: r) g off cap d w hG ?_ h1 h2 (each h2)
        unfold Holds
        exact ⟨hv, hr⟩
    · rw [decide_eq_false h2, Bool.false_and]
      exact allDeep p _ cap d w (by omega) (by omega)
  · rw [decide_eq_false h1, Bool.false_and, Bool.false_and]
    exact allBig p _ cap d w (by omega)

theorem mayBe_step (d : Nat) (hd : d ≤ 60) (next : d + 1 ≤ 60 → ∀ v, MayBeAt v (d + 1)) (v : Val) : MayBeAt v d := by
  intro W k b n t x l L e hG ht hx hL
  subst e
  obtain ⟨p, cap, rfl⟩ := held_slice hL
  unfold mayP
  refine mayBeOf k b n t x p l.length cap d W _ hG (by omega) (by omega) (by omega) (by omega) fun _ W' hb => ?_
  have := allAny l _ (d + 1) W' (hG.below hb) (Held.below l hL hb) fun h v _ => next h v
  simpa using this
theorem mayBeAll : ∀ (m d : Nat), m + d = 60 → ∀ v, MayBeAt v d
  | 0, d, e, v => mayBe_step d (by omega) (fun h => absurd h (by omega)) v
  | m + 1, d, e, v => mayBe_step d (by omega) (fun _ => mayBeAll m (d + 1) (by omega)) v

/-- Check answers mayP, of any value that lies whole in memory. -/
theorem checkAtV (v : Val) (k : Int) (b : Bool) (n : Int) (t x : ByteArray) (l : List Val) (L : Value) (W : World) (e : v = .mk k b n t x l) (hG : Gd W) (ht : t.size ≤ 2097152) (hx : x.size ≤ 2097152) (hL : Held W L l) :
    Calls Tryd.prog 8 #[.agg #[.int .i64 k, .bool b, .int .i64 n, .string t, .string x, L]] W fun e w' => e = .returned (.bool (mayP v 0)) ∧ Below W.heap.size W w' := by
  obtain ⟨p, cap, rfl⟩ := held_slice hL
  have l0 : Six (W.alloc (.cells #[.int .i64 k, .bool b, .int .i64 n, .string t, .string x, .slice p l.length cap] 28)) W.heap.size k b n t x p l.length cap := six_new _ rfl
  have b0 := below1 W (.cells #[.int .i64 k, .bool b, .int .i64 n, .string t, .string x, .slice p l.length cap] 28)
  have hc : Calls Tryd.prog 19 #[.agg #[.int .i64 k, .bool b, .int .i64 n, .string t, .string x, .slice p l.length cap], .int .i64 0] (W.alloc (.cells #[.int .i64 k, .bool b, .int .i64 n, .string t, .string x, .slice p l.length cap] 28)) _ :=
    mayBeAll 60 0 rfl v _ k b n t x l _ e (hG.alloc _) ht hx (Held.below l hL b0)
  go_enter Tryd.func8, Tryd.ntmps8
  go_wp2_with (first
    | ((with_reducible refine wpList_load6 (.tmp 1) W.heap.size l0 ?_ ?_ ?_ ?_); rfl; rfl; rfl)
    | (go_at_call 19; (with_reducible refine hc.mono ?_); rintro e w' ⟨rfl, hb⟩; have b3 := below_any b0 hb (Nat.le_of_lt l0.lt)))
  go_ret
  exact ⟨by first | rfl | (subst e; rfl), b3⟩
end Go.Proofs.YtoifjjgakblhhaaDoor
