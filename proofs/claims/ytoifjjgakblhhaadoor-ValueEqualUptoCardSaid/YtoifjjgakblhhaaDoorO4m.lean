/- Whether each of a list may be. -/
import Derived.Test.YtoifjjgakblhhaaDoorO3m
namespace Go.Proofs.YtoifjjgakblhhaaDoor
open Go.RowKit

theorem Holds.at_ {w : World} {g : Nat} : (l : List Val) → (off : Nat) → Holds w g off l → ∀ (i : Nat) (h : i < l.length), HoldsOne w g (off + i * 6) l[i]
  | [], _, _, i, h => absurd h (by simp)
  | v :: r, off, hh, i, h => by
    unfold Holds at hh
    match i, h with
    | 0, _ => rw [Nat.zero_mul]; exact hh.1
    | i + 1, h =>
      have := Holds.at_ r (off + 6) hh.2 i (by simpa using h)
      rw [show off + (i + 1) * 6 = off + 6 + i * 6 by omega]
      exact this
theorem eachP_no : (l : List Val) → (d : Nat) → ∀ (i : Nat) (h : i < l.length), mayP l[i] d = false → eachP l d = false
  | [], _, i, h, _ => absurd h (by simp)
  | v :: r, d, i, h, e => by
    unfold eachP
    match i, h with
    | 0, _ => rw [show mayP v d = false from e]; rfl
    | i + 1, h => rw [eachP_no r d i (by simpa using h) e, Bool.and_false]
theorem eachP_yes : (l : List Val) → (d : Nat) → (∀ (i : Nat) (h : i < l.length), mayP l[i] d = true) → eachP l d = true
  | [], _, _ => by unfold eachP; rfl
  | v :: r, d, e => by
    unfold eachP
    rw [show mayP v d = true from e 0 (by simp), eachP_yes r d fun i h => e (i + 1) (by simpa using h)]
    rfl

/-- What mayBe answers of a value that lies somewhere. -/
def MayBeAt (v : Val) (d : Nat) : Prop := ∀ (W : World) (k : Int) (b : Bool) (n : Int) (t x : ByteArray) (l : List Val) (L : Value), v = .mk k b n t x l → Gd W → t.size ≤ 2097152 → x.size ≤ 2097152 → Held W L l →
  Calls Tryd.prog 19 #[.agg #[.int .i64 k, .bool b, .int .i64 n, .string t, .string x, L], .int .i64 d] W fun e w' => e = .returned (.bool (mayP v d)) ∧ Below W.heap.size W w'

set_option maxHeartbeats 1600000 in
theorem allMayAt (l : List Val) (g off cap d : Nat) (w : World) (hG : Gd w) (hl : Holds w g off l) (h1 : l.length ≤ 4096) (h2 : d ≤ 60) (each : ∀ v ∈ l, MayBeAt v d) :
    Calls Tryd.prog 33 #[.slice (some ⟨g, off, none⟩) l.length cap, .int .i64 d] w fun e w' => e = .returned (.bool (eachP l d)) ∧ Below w.heap.size w w' := by
  have a1 : (l.length : Int) ≤ 4096 := by omega
  have a2 : (d : Int) ≤ 60 := by omega
  have HH := Lib.hid hl
  have HE := Lib.hid each
  clear hl each
  go_enter Tryd.func33, Tryd.ntmps33
  go_wp2_with fail
  go_loopw [16] (fun i wr => ∃ j : Nat, j ≤ l.length ∧ i = .int .i64 j ∧ Below w.heap.size w wr ∧ ∀ (i : Nat) (h : i < l.length), i < j → mayP l[i] d = true) (fun i _ => l.length - (intOf i).toNat)
  case atStart => exact ⟨0, Nat.zero_le _, rfl, Below.refl _ _, fun _ _ h => absurd h (by omega)⟩
  case round =>
    obtain ⟨j, hj, rfl, hb, hall⟩ := hrel
    have HA := Lib.hid hall
    clear hall
    by_cases hlt : j < l.length
    · have ho := (Holds.at_ l off HH.out j hlt).below _ hb
      have hev := HE.out l[j] (List.getElem_mem hlt)
      obtain ⟨k, b, n, t, x, q, ev⟩ : ∃ k b n t x q, l[j] = Val.mk k b n t x q := by cases l[j] with | mk k b n t x q => exact ⟨k, b, n, t, x, q, rfl⟩
      rw [ev] at ho
      unfold HoldsOne at ho
      obtain ⟨c0, c1, c2, c3, c4, hf, L, c5, hL⟩ := ho
      have ht := hf.ht
      have hx := hf.hx
      clear hf
      obtain ⟨p, len, cp, rfl⟩ : ∃ p len cp, L = .slice p len cp := by
        cases q with
        | nil => unfold Held at hL; obtain ⟨p, cp, e⟩ := hL; exact ⟨p, 0, cp, e⟩
        | cons v r => unfold Held at hL; obtain ⟨g', off', cp, e, _⟩ := hL; exact ⟨_, _, _, e⟩
      have gr := hG.below hb
      cases hr : mayP l[j] d with
      | true =>
        have hc := (hev (wr.alloc (.cells #[.int .i64 k, .bool b, .int .i64 n, .string t, .string x, .slice p len cp] 28)) k b n t x q (.slice p len cp) ev (gr.alloc _) ht hx (Held.below q hL (below1 _ _)))
        rw [hr] at hc
        have hs : w.heap.size ≤ wr.heap.size := hb.size
        have l0 : Six (wr.alloc (.cells #[.int .i64 k, .bool b, .int .i64 n, .string t, .string x, .slice p len cp] 28)) wr.heap.size k b n t x p len cp := six_new _ rfl
        have b0 : Below w.heap.size w (wr.alloc (.cells #[.int .i64 k, .bool b, .int .i64 n, .string t, .string x, .slice p len cp] 28)) := hb.alloc hs _
        have z0 : w.heap.size ≤ (wr.alloc (.cells #[.int .i64 k, .bool b, .int .i64 n, .string t, .string x, .slice p len cp] 28)).heap.size := by have := l0.lt; omega
        go_wp2_with (first
          | ((with_reducible refine wpList_loadMid6 (.tmp 18) g (off + j * 6) k b n t x (.slice p len cp) c0 c1 c2 c3 c4 c5 ?_ ?_ ?_ ?_); rfl; rfl; rfl)
          | ((with_reducible refine wpList_load6 (.tmp 6) wr.heap.size l0 ?_ ?_ ?_ ?_); rfl; rfl; rfl)
          | (go_at_call 19; (with_reducible refine hc.mono ?_); rintro e w3 ⟨rfl, hb3⟩; have b3 := below_any b0 hb3 z0))
        go_roundw
        case rel =>
          refine ⟨j + 1, by omega, by go_num, b3, fun i hi hlt' => ?_⟩
          by_cases e : i = j
          · subst e; exact hr
          · exact HA.out i hi (by omega)
        case measure => simp [intOf]; omega
      | false =>
        have hc := (hev (wr.alloc (.cells #[.int .i64 k, .bool b, .int .i64 n, .string t, .string x, .slice p len cp] 28)) k b n t x q (.slice p len cp) ev (gr.alloc _) ht hx (Held.below q hL (below1 _ _)))
        rw [hr] at hc
        have hs : w.heap.size ≤ wr.heap.size := hb.size
        have l0 : Six (wr.alloc (.cells #[.int .i64 k, .bool b, .int .i64 n, .string t, .string x, .slice p len cp] 28)) wr.heap.size k b n t x p len cp := six_new _ rfl
        have b0 : Below w.heap.size w (wr.alloc (.cells #[.int .i64 k, .bool b, .int .i64 n, .string t, .string x, .slice p len cp] 28)) := hb.alloc hs _
        have z0 : w.heap.size ≤ (wr.alloc (.cells #[.int .i64 k, .bool b, .int .i64 n, .string t, .string x, .slice p len cp] 28)).heap.size := by have := l0.lt; omega
        go_wp2_with (first
          | ((with_reducible refine wpList_loadMid6 (.tmp 18) g (off + j * 6) k b n t x (.slice p len cp) c0 c1 c2 c3 c4 c5 ?_ ?_ ?_ ?_); rfl; rfl; rfl)
          | ((with_reducible refine wpList_load6 (.tmp 6) wr.heap.size l0 ?_ ?_ ?_ ?_); rfl; rfl; rfl)
          | (go_at_call 19; (with_reducible refine hc.mono ?_); rintro e w3 ⟨rfl, hb3⟩; have b3 := below_any b0 hb3 z0))
        go_ret
        exact ⟨by rw [eachP_no l d j hlt hr]; rfl, b3⟩
    · go_wp2_with fail
      go_ret
      exact ⟨by rw [eachP_yes l d fun i h => HA.out i h (by omega)]; rfl, hb⟩
end Go.Proofs.YtoifjjgakblhhaaDoor
