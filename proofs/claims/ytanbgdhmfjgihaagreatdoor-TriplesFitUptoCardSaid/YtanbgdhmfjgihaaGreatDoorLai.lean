/- Texts of one kind, one behind the other: each says ahead of itself what it shows. -/
import Derived.Test.YtanbgdhmfjgihaaGreatDoorLag
import Derived.Test.YtanbgdhmfjgihaaGreatDoorLah
import Derived.Deep.RegionHeld3
import Derived.StillTailTactics
/- Whether two values are the same: the program's answer. -/
namespace Go.Proofs.YtanbgdhmfjgihaaGreatDoor
open Go.RowKit

mutual
/-- Whether two values are the same. -/
def sameP : Val → Val → Bool
  | .mk k b n t x l, .mk k2 b2 n2 t2 x2 l2 => (k == k2) && ((b == b2) && ((n == n2) && ((t.toList == t2.toList) && ((x.toList == x2.toList) && ((l.length == l2.length) && eachSame l l2)))))
def eachSame : List Val → List Val → Bool
  | v :: r, v2 :: r2 => sameP v v2 && eachSame r r2
  | _, _ => true
end
theorem eachSame_no : (l l2 : List Val) → ∀ (i : Nat) (h : i < l.length) (h2 : i < l2.length), sameP l[i] l2[i] = false → eachSame l l2 = false
  | [], _, i, h, _, _ => absurd h (by simp)
  | _ :: _, [], i, _, h2, _ => absurd h2 (by simp)
  | v :: r, v2 :: r2, i, h, h2, e => by
    unfold eachSame
    match i, h, h2 with
    | 0, _, _ => rw [show sameP v v2 = false from e]; rfl
    | i + 1, h, h2 => rw [eachSame_no r r2 i (by simpa using h) (by simpa using h2) e, Bool.and_false]
theorem eachSame_yes : (l l2 : List Val) → (∀ (i : Nat) (h : i < l.length) (h2 : i < l2.length), sameP l[i] l2[i] = true) → eachSame l l2 = true
  | [], _, _ => by unfold eachSame; rfl
  | _ :: _, [], _ => by unfold eachSame; rfl
  | v :: r, v2 :: r2, h => by
    unfold eachSame
    rw [show sameP v v2 = true from h 0 (by simp) (by simp), Bool.true_and]
    exact eachSame_yes r r2 fun i h1 h2 => h (i + 1) (by simpa using h1) (by simpa using h2)

/-- A value's cells, and where its list lies. -/
structure Opens (w : World) (g off : Nat) (v : Val) (k : Int) (b : Bool) (n : Int) (t x : ByteArray) (q : List Val) (p : Option Addr) (cap : Nat) : Prop where
  e : v = .mk k b n t x q
  c0 : w.cell? ⟨g, off, none⟩ = some (.int .i64 k)
  c1 : w.cell? ⟨g, off + 1, none⟩ = some (.bool b)
  c2 : w.cell? ⟨g, off + 2, none⟩ = some (.int .i64 n)
  c3 : w.cell? ⟨g, off + 3, none⟩ = some (.string t)
  c4 : w.cell? ⟨g, off + 4, none⟩ = some (.string x)
  c5 : w.cell? ⟨g, off + 5, none⟩ = some (.slice p q.length cap)
  hf : Fine n t x q.length
  hl : Held w (.slice p q.length cap) q
theorem HoldsOne.opens {w : World} {g off : Nat} : {v : Val} → HoldsOne w g off v → ∃ k b n t x q p cap, Opens w g off v k b n t x q p cap
  | .mk k b n t x q, h => by
    unfold HoldsOne at h
    obtain ⟨h0, h1, h2, h3, h4, hf, L, h5, hl⟩ := h
    obtain ⟨p, cap, rfl⟩ := held_slice hl
    exact ⟨k, b, n, t, x, q, p, cap, rfl, h0, h1, h2, h3, h4, h5, hf, hl⟩
theorem Held.form {w : World} {p : Option Addr} {cap n : Nat} {v : Val} {r : List Val} (h : Held w (.slice p n cap) (v :: r)) : ∃ g off, p = some ⟨g, off, none⟩ ∧ Holds w g off (v :: r) := by
  unfold Held at h
  obtain ⟨g, off, cap', e, hv, hr⟩ := h
  cases e
  refine ⟨g, off, rfl, ?_⟩
  unfold Holds
  exact ⟨hv, hr⟩

/-- Same's contract at a value. -/
def SameAt (v : Val) : Prop := ∀ (W : World) (k : Int) (b : Bool) (n : Int) (t x : ByteArray) (q : List Val) (p : Option Addr) (cap : Nat) (v2 : Val) (k2 : Int) (b2 : Bool) (n2 : Int) (t2 x2 : ByteArray) (q2 : List Val) (p2 : Option Addr) (cap2 : Nat),
  v = .mk k b n t x q → v2 = .mk k2 b2 n2 t2 x2 q2 → q.length ≤ 2097152 → Held W (.slice p q.length cap) q → Held W (.slice p2 q2.length cap2) q2 →
  Calls Tryz.prog 76 #[.agg #[.int .i64 k, .bool b, .int .i64 n, .string t, .string x, .slice p q.length cap], .agg #[.int .i64 k2, .bool b2, .int .i64 n2, .string t2, .string x2, .slice p2 q2.length cap2]] W
    fun e w' => e = .returned (.bool (sameP v v2)) ∧ Low W.heap.size W w'

theorem eqFuncLen (p p2 : Option Addr) (n n2 cap cap2 : Nat) (w : World) (h : ¬ n = n2) :
    Calls Tryz.prog 103 #[.slice p n cap, .slice p2 n2 cap2, .func (.func 76) #[] #[]] w fun e w' => e = .returned (.bool false) ∧ Low w.heap.size w w' := by
  have h1 : ((n : Int) != n2) = true := by simp; omega
  clear h
  go_enter Tryz.func103, Tryz.ntmps103
  go_wp2_with fail
  go_ret
  exact ⟨rfl, Low.refl _ _⟩
theorem eqFuncNone (p p2 : Option Addr) (cap cap2 : Nat) (w : World) :
    Calls Tryz.prog 103 #[.slice p 0 cap, .slice p2 0 cap2, .func (.func 76) #[] #[]] w fun e w' => e = .returned (.bool true) ∧ Low w.heap.size w w' := by
  go_enter Tryz.func103, Tryz.ntmps103
  go_wp2_with fail
  go_loopw [17] (fun i wr => i = .int .i64 0 ∧ wr = w) (fun _ _ => 0)
  case atStart => exact ⟨rfl, rfl⟩
  case round =>
    obtain ⟨rfl, rfl⟩ := hrel
    go_wp2_with fail
    go_ret
    exact ⟨rfl, Low.refl _ _⟩

set_option maxHeartbeats 1600000 in
theorem eqFuncSome (l l2 : List Val) (g off cap g2 off2 cap2 : Nat) (w : World) (hl : Holds w g off l) (hl2 : Holds w g2 off2 l2) (hlen : l2.length = l.length) (hn : l.length ≤ 2097152) (each : ∀ v ∈ l, SameAt v) :
    Calls Tryz.prog 103 #[.slice (some ⟨g, off, none⟩) l.length cap, .slice (some ⟨g2, off2, none⟩) l.length cap2, .func (.func 76) #[] #[]] w fun e w' => e = .returned (.bool (eachSame l l2)) ∧ Low w.heap.size w w' := by
  have HH := Lib.hid hl
  have HH2 := Lib.hid hl2
  have HE := Lib.hid each
  have HL := Lib.hid hlen
  clear hl hl2 each hlen
  go_enter Tryz.func103, Tryz.ntmps103
  go_wp2_with fail
  go_loopw [17] (fun i wr => ∃ j : Nat, j ≤ l.length ∧ i = .int .i64 j ∧ Low w.heap.size w wr ∧ ∀ (i : Nat) (h : i < l.length) (h2 : i < l2.length), i < j → sameP l[i] l2[i] = true) (fun i _ => l.length - (intOf i).toNat)
  case atStart => exact ⟨0, Nat.zero_le _, rfl, Low.refl _ _, fun _ _ _ h => absurd h (by omega)⟩
  case round =>
    obtain ⟨j, hj, rfl, hb, hall⟩ := hrel
    have HA := Lib.hid hall
    clear hall
    by_cases hlt : j < l.length
    · have hlt2 : j < l2.length := by have := HL.out; omega
      obtain ⟨k, b, n, t, x, q, p, cp, o1⟩ := ((Holds.at_ l off HH.out j hlt).below _ hb.is).opens
      obtain ⟨k2, b2, n2, t2, x2, q2, p2, cp2, o2⟩ := ((Holds.at_ l2 off2 HH2.out j hlt2).below _ hb.is).opens
      obtain ⟨c1, hc1⟩ : ∃ c1, c1 = Obj.cells #[.int .i64 k, .bool b, .int .i64 n, .string t, .string x, .slice p q.length cp] 39 := ⟨_, rfl⟩
      obtain ⟨c2, hc2⟩ : ∃ c2, c2 = Obj.cells #[.int .i64 k2, .bool b2, .int .i64 n2, .string t2, .string x2, .slice p2 q2.length cp2] 39 := ⟨_, rfl⟩
      have bb := low2 wr c1 c2
      have hc := HE.out l[j] (List.getElem_mem hlt) ((wr.alloc c1).alloc c2) k b n t x q p cp l2[j] k2 b2 n2 t2 x2 q2 p2 cp2 o1.e o2.e o1.hf.hn (Held.below q o1.hl bb.is) (Held.below q2 o2.hl bb.is)
      obtain ⟨r, hr⟩ : ∃ r, r = sameP l[j] l2[j] := ⟨_, rfl⟩
      rw [← hr] at hc
      have l0 : Six ((wr.alloc c1).alloc c2) wr.heap.size k b n t x p q.length cp := by rw [hc1]; exact (six_new _ rfl).alloc _
      have l1 : Six ((wr.alloc c1).alloc c2) (wr.heap.size + 1) k2 b2 n2 t2 x2 p2 q2.length cp2 := by rw [hc2]; exact six_new _ (by simp)
      have hs : w.heap.size ≤ wr.heap.size := hb.size
      have b0 : Low w.heap.size w ((wr.alloc c1).alloc c2) := (hb.alloc hs _).alloc (by simp; omega) _
      have z0 : w.heap.size ≤ ((wr.alloc c1).alloc c2).heap.size := b0.size
      have oo2 : Opens (wr.alloc c1) g2 (off2 + j * 6) l2[j] k2 b2 n2 t2 x2 q2 p2 cp2 := by
        have h1 := low1 wr c1
        have hg := World.block_lt_of_cell? wr _ o2.c0
        exact ⟨o2.e, (h1.cell (p := ⟨g2, off2 + j * 6, none⟩) hg).trans o2.c0, (h1.cell (p := ⟨g2, off2 + j * 6 + 1, none⟩) hg).trans o2.c1, (h1.cell (p := ⟨g2, off2 + j * 6 + 2, none⟩) hg).trans o2.c2, (h1.cell (p := ⟨g2, off2 + j * 6 + 3, none⟩) hg).trans o2.c3,
          (h1.cell (p := ⟨g2, off2 + j * 6 + 4, none⟩) hg).trans o2.c4, (h1.cell (p := ⟨g2, off2 + j * 6 + 5, none⟩) hg).trans o2.c5, o2.hf, Held.below q2 o2.hl h1.is⟩
      have O1 := Lib.hid o1
      have O2 := Lib.hid oo2
      have HR := Lib.hid hr
      clear o1 o2 oo2 bb hr
      subst hc1 hc2
      cases r with
      | true =>
        go_wp2_with (first
          | ((with_reducible refine wpList_loadMid6 (.tmp 20) g (off + j * 6) k b n t x (.slice p q.length cp) O1.out.c0 O1.out.c1 O1.out.c2 O1.out.c3 O1.out.c4 O1.out.c5 ?_ ?_ ?_ ?_); rfl; rfl; rfl)
          | ((with_reducible refine wpList_loadMid6 (.tmp 24) g2 (off2 + j * 6) k2 b2 n2 t2 x2 (.slice p2 q2.length cp2) O2.out.c0 O2.out.c1 O2.out.c2 O2.out.c3 O2.out.c4 O2.out.c5 ?_ ?_ ?_ ?_); rfl; rfl; rfl)
          | ((with_reducible refine wpList_load6 (.tmp 8) wr.heap.size l0 ?_ ?_ ?_ ?_); rfl; rfl; rfl)
          | ((with_reducible refine wpList_load6 (.tmp 9) (wr.heap.size + 1) l1 ?_ ?_ ?_ ?_); rfl; rfl; rfl)
          | (go_at_call 76; (with_reducible refine hc.mono ?_); rintro e w3 ⟨rfl, hb3⟩; have b3 := low_any b0 hb3 z0))
        go_roundw
        case rel =>
          refine ⟨j + 1, by omega, by go_num, b3, fun i hi hi2 hlt' => ?_⟩
          by_cases e : i = j
          · subst e; exact HR.out.symm
          · exact HA.out i hi hi2 (by omega)
        case measure => simp [intOf]; omega
      | false =>
        go_wp2_with (first
          | ((with_reducible refine wpList_loadMid6 (.tmp 20) g (off + j * 6) k b n t x (.slice p q.length cp) O1.out.c0 O1.out.c1 O1.out.c2 O1.out.c3 O1.out.c4 O1.out.c5 ?_ ?_ ?_ ?_); rfl; rfl; rfl)
          | ((with_reducible refine wpList_loadMid6 (.tmp 24) g2 (off2 + j * 6) k2 b2 n2 t2 x2 (.slice p2 q2.length cp2) O2.out.c0 O2.out.c1 O2.out.c2 O2.out.c3 O2.out.c4 O2.out.c5 ?_ ?_ ?_ ?_); rfl; rfl; rfl)
          | ((with_reducible refine wpList_load6 (.tmp 8) wr.heap.size l0 ?_ ?_ ?_ ?_); rfl; rfl; rfl)
          | ((with_reducible refine wpList_load6 (.tmp 9) (wr.heap.size + 1) l1 ?_ ?_ ?_ ?_); rfl; rfl; rfl)
          | (go_at_call 76; (with_reducible refine hc.mono ?_); rintro e w3 ⟨rfl, hb3⟩; have b3 := low_any b0 hb3 z0))
        go_ret
        exact ⟨by rw [eachSame_no l l2 j hlt hlt2 HR.out.symm]; rfl, b3⟩
    · go_wp2_with fail
      go_ret
      exact ⟨by rw [eachSame_yes l l2 fun i h h2 => HA.out i h h2 (by omega)]; rfl, hb⟩

theorem eqFuncAt (l l2 : List Val) (p p2 : Option Addr) (cap cap2 : Nat) (w : World) (hl : Held w (.slice p l.length cap) l) (hl2 : Held w (.slice p2 l2.length cap2) l2) (hn : l.length ≤ 2097152) (each : ∀ v ∈ l, SameAt v) :
    Calls Tryz.prog 103 #[.slice p l.length cap, .slice p2 l2.length cap2, .func (.func 76) #[] #[]] w fun e w' => e = .returned (.bool ((l.length == l2.length) && eachSame l l2)) ∧ Low w.heap.size w w' := by
  by_cases h : l.length = l2.length
  · rw [show (l.length == l2.length) = true by simpa using h, Bool.true_and, ← h]
    cases l with
    | nil =>
      unfold eachSame
      exact eqFuncNone _ _ _ _ _
    | cons v r =>
      cases l2 with
      | nil => simp at h
      | cons v2 r2 =>
        obtain ⟨g, off, rfl, hh⟩ := hl.form
        obtain ⟨g2, off2, rfl, hh2⟩ := hl2.form
        exact eqFuncSome (v :: r) (v2 :: r2) g off cap g2 off2 cap2 w hh hh2 h.symm hn each
  · rw [show (l.length == l2.length) = false by simpa using h, Bool.false_and]
    exact eqFuncLen p p2 _ _ cap cap2 w h
end Go.Proofs.YtanbgdhmfjgihaaGreatDoor

/- Same, for values in one another. -/
namespace Go.Proofs.YtanbgdhmfjgihaaGreatDoor
open Go.RowKit

set_option maxHeartbeats 1600000 in
theorem same_step (v : Val) (k : Int) (b : Bool) (n : Int) (t x : ByteArray) (q : List Val) (ev : v = .mk k b n t x q) (each : ∀ u ∈ q, SameAt u) : SameAt v := by
  subst ev
  intro W k1 b1 n1 t1 x1 q1 p cap v2 k2 b2 n2 t2 x2 q2 p2 cap2 e1 e2 hn hl hl2
  cases e1
  subst e2
  unfold sameP
  obtain ⟨c1, hc1⟩ : ∃ c1, c1 = Obj.cells #[.int .i64 k, .bool b, .int .i64 n, .string t, .string x, .slice p q.length cap] 39 := ⟨_, rfl⟩
  obtain ⟨c2, hc2⟩ : ∃ c2, c2 = Obj.cells #[.int .i64 k2, .bool b2, .int .i64 n2, .string t2, .string x2, .slice p2 q2.length cap2] 39 := ⟨_, rfl⟩
  have b0 := low2 W c1 c2
  have hc := eqFuncAt q q2 p p2 cap cap2 ((W.alloc c1).alloc c2) (Held.below q hl b0.is) (Held.below q2 hl2 b0.is) hn each
  have l0 : Six ((W.alloc c1).alloc c2) W.heap.size k b n t x p q.length cap := by rw [hc1]; exact (six_new _ rfl).alloc _
  have l1 : Six ((W.alloc c1).alloc c2) (W.heap.size + 1) k2 b2 n2 t2 x2 p2 q2.length cap2 := by rw [hc2]; exact six_new _ (by simp)
  have z0 := b0.size
  have f0 := l0.c0
  have f1 := l0.c1
  have f2 := l0.c2
  have f3 := l0.c3
  have f4 := l0.c4
  have f5 := l0.c5
  have g0 := l1.c0
  have g1 := l1.c1
  have g2 := l1.c2
  have g3 := l1.c3
  have g4 := l1.c4
  have g5 := l1.c5
  clear l0 l1 hl hl2 each hn
  subst hc1 hc2
  cases a0 : (k == k2) with
  | false =>
    rw [Bool.false_and]
    go_enter Tryz.func76, Tryz.ntmps76
    go_wp2_with fail
    go_ret
    exact ⟨rfl, b0⟩
  | true =>
    rw [Bool.true_and]
    cases a1 : (b == b2) with
    | false =>
      rw [Bool.false_and]
      go_enter Tryz.func76, Tryz.ntmps76
      go_wp2_with fail
      go_ret
      exact ⟨rfl, b0⟩
    | true =>
      rw [Bool.true_and]
      cases a2 : (n == n2) with
      | false =>
        rw [Bool.false_and]
        go_enter Tryz.func76, Tryz.ntmps76
        go_wp2_with fail
        go_ret
        exact ⟨rfl, b0⟩
      | true =>
        rw [Bool.true_and]
        cases a3 : (t.toList == t2.toList) with
        | false =>
          rw [Bool.false_and]
          go_enter Tryz.func76, Tryz.ntmps76
          go_wp2_with fail
          go_ret
          exact ⟨rfl, b0⟩
        | true =>
          rw [Bool.true_and]
          cases a4 : (x.toList == x2.toList) with
          | false =>
            rw [Bool.false_and]
            go_enter Tryz.func76, Tryz.ntmps76
            go_wp2_with fail
            go_ret
            exact ⟨rfl, b0⟩
          | true =>
            rw [Bool.true_and]
            generalize (q.length == q2.length && eachSame q q2) = r at hc ⊢
            go_enter Tryz.func76, Tryz.ntmps76
            go_wp2_with (go_at_call 103; (with_reducible refine hc.mono ?_); rintro e w3 ⟨rfl, hb3⟩; replace b0 := low_any b0 hb3 z0)
            go_ret
            exact ⟨rfl, b0⟩

mutual
theorem sameAll : (v : Val) → SameAt v
  | .mk k b n t x q => same_step _ k b n t x q rfl (sameEach q)
theorem sameEach : (q : List Val) → ∀ u ∈ q, SameAt u
  | [], _, h => absurd h (by simp)
  | v :: r, u, h => by
    rcases List.mem_cons.1 h with h | h
    · rw [h]; exact sameAll v
    · exact sameEach r u h
end
end Go.Proofs.YtanbgdhmfjgihaaGreatDoor

/- A number as a decimal; two numbers held against each other. -/
namespace Go.Proofs.YtanbgdhmfjgihaaGreatDoor
open Go.RowKit

/-- What a number says, scaled by 10 ^ 54. -/
def numV (k n : Int) (t : ByteArray) : Int := if k = 2 then n * 10 ^ 54 else if chk t.data.toList then dval t.data.toList else 0
/-- A decimal text that says z. -/
def Says (z : Int) (s : ByteArray) : Prop := chk s.data.toList = true ∧ dval s.data.toList = z ∧ s.size < 4294967281

theorem ofIntSays (n : Int) (h0 : -9223372036854775808 ≤ n) (h1 : n ≤ 9223372036854775807) (w : World) (hT : Tab w) :
    Calls Tryz.prog 207 #[.int .i64 n] w fun e w' => ∃ s, e = .returned (.string s) ∧ Says (n * 10 ^ 54) s ∧ Low w.heap.size w w' := by
  obtain ⟨f1, f2, f3, f4⟩ := intT_facts n h0 h1
  refine (ofIntAt n h0 h1 w hT _ rfl f4).mono ?_
  rintro e w' ⟨rfl, hb⟩
  exact ⟨_, rfl, ⟨f1, f2, show (intT n).size < _ by omega⟩, hb⟩

theorem asDecimalAt (k : Int) (b : Bool) (n : Int) (t x : ByteArray) (p : Option Addr) (len cap : Nat) (w : World) (hG : Gd w) (hT : Tab w) (hf : Fine n t x len) :
    Calls Tryz.prog 194 #[.agg #[.int .i64 k, .bool b, .int .i64 n, .string t, .string x, .slice p len cap]] w fun e w' => ∃ s, e = .returned (.string s) ∧ Says (numV k n t) s ∧ Low w.heap.size w w' := by
  have l0 := six_new (k := k) (b := b) (n := n) (t := t) (x := x) (p := p) (len := len) (cap := cap) w rfl
  have b0 := low1 w (.cells #[.int .i64 k, .bool b, .int .i64 n, .string t, .string x, .slice p len cap] 39)
  have g0 := hG.below b0.is
  have t0 := hT.below b0.is
  have z0 := b0.size
  have f0 := l0.c0
  have f2 := l0.c2
  have f3 := l0.c3
  have HF := Lib.hid hf
  by_cases h2 : k = 2
  · subst h2
    obtain ⟨z, hz⟩ : ∃ z, z = numV 2 n t := ⟨_, rfl⟩
    have hc := fun W hW => ofIntSays n HF.out.lo HF.out.hi W hW
    have e : numV 2 n t = n * 10 ^ 54 := by unfold numV; rw [if_pos rfl]
    rw [← e, ← hz] at hc
    rw [← hz]
    have HC := Lib.hid hc
    clear hc hz e l0 hf
    go_enter Tryz.func194, Tryz.ntmps194
    go_wp2_with (go_at_call 207; (with_reducible refine (HC.out _ t0).mono ?_); rintro e w1 ⟨s, rfl, hs, hb⟩; have HS := Lib.hid hs; clear hs; replace b0 := low_any b0 hb z0)
    go_ret
    exact ⟨s, rfl, HS.out, b0⟩
  · have e2 : (k == 2) = false := by simpa using h2
    cases hk : chk t.data.toList with
    | true =>
      have e : numV k n t = dval t.data.toList := by unfold numV; rw [if_neg h2, if_pos hk]
      rw [e]
      have hsay : Hid (Says (dval t.data.toList) t) := Lib.hid ⟨hk, rfl, by have := hf.ht; omega⟩
      have hc := fun W hW => checkAt t W hW (by have := hf.ht; omega)
      rw [hk] at hc
      have b9 := b0
      clear h2 e hk l0 hf
      generalize dval t.data.toList = z at hsay ⊢
      go_enter Tryz.func194, Tryz.ntmps194
      go_wp2_with (go_at_call 108; (with_reducible refine (hc _ g0).mono ?_); rintro e w1 ⟨rfl, hb⟩; have c3 := (hb.cell (p := ⟨w.heap.size, 3, none⟩) (World.block_lt_of_cell? _ _ f3)).trans f3; replace b9 := low_any b0 hb z0)
      go_ret
      exact ⟨t, rfl, hsay.out, b9⟩
    | false =>
      have e : numV k n t = 0 := by unfold numV; rw [if_neg h2, if_neg (by simp [hk])]
      rw [e]
      have hc := fun W hW => checkAt t W hW (by have := hf.ht; omega)
      rw [hk] at hc
      have hd := fun W hW => ofIntSays 0 (by omega) (by omega) W hW
      rw [Int.zero_mul] at hd
      have HD := Lib.hid hd
      have b9 := b0
      clear h2 e hk l0 hf hd
      go_enter Tryz.func194, Tryz.ntmps194
      go_wp2_with (first
        | (go_at_call 108; (with_reducible refine (hc _ g0).mono ?_); rintro e w1 ⟨rfl, hb⟩; have t1 := t0.below hb.is; replace b9 := low_any b0 hb z0)
        | (go_at_call 207; (with_reducible refine (HD.out _ t1).mono ?_); rintro e w2 ⟨s, rfl, hs, hb2⟩; have HS := Lib.hid hs; clear hs; replace b9 := low_any b9 hb2 b9.size))
      go_ret
      exact ⟨s, rfl, HS.out, b9⟩
end Go.Proofs.YtanbgdhmfjgihaaGreatDoor

/- Two numbers held against each other. -/
namespace Go.Proofs.YtanbgdhmfjgihaaGreatDoor
open Go.RowKit

theorem cmpZ_scale (a b : Int) : cmpZ (a * 10 ^ 54) (b * 10 ^ 54) = cmpZ a b := by
  obtain ⟨P, hP⟩ : ∃ P : Int, P = 10 ^ 54 := ⟨_, rfl⟩
  have hp : 0 < P := by rw [hP]; decide
  rw [← hP]
  clear hP
  unfold cmpZ
  by_cases h : a < b
  · rw [if_pos h, if_pos (Int.mul_lt_mul_of_pos_right h hp)]
  · rw [if_neg h, if_neg (fun h2 => h (Int.lt_of_mul_lt_mul_right h2 (Int.le_of_lt hp)))]
    by_cases h3 : b < a
    · rw [if_pos h3, if_pos (Int.mul_lt_mul_of_pos_right h3 hp)]
    · rw [if_neg h3, if_neg (fun h2 => h3 (Int.lt_of_mul_lt_mul_right h2 (Int.le_of_lt hp)))]

theorem cmpIntAt (a b : Int) (w : World) : Calls Tryz.prog 167 #[.int .i64 a, .int .i64 b] w fun e w' => e = .returned (.int .i64 (cmpZ a b)) ∧ Low w.heap.size w w' := by
  by_cases h : a < b
  · have e : cmpZ a b = -1 := by unfold cmpZ; rw [if_pos h]
    rw [e]
    clear e
    go_enter Tryz.func167, Tryz.ntmps167
    go_wp2
    go_ret
    exact ⟨rfl, Low.refl _ _⟩
  · by_cases h2 : b < a
    · have e : cmpZ a b = 1 := by unfold cmpZ; rw [if_neg h, if_pos h2]
      rw [e]
      clear e
      go_enter Tryz.func167, Tryz.ntmps167
      go_wp2
      go_ret
      exact ⟨rfl, Low.refl _ _⟩
    · have e : cmpZ a b = 0 := by unfold cmpZ; rw [if_neg h, if_neg h2]
      rw [e]
      obtain rfl : a = b := by omega
      clear e h2 h
      go_enter Tryz.func167, Tryz.ntmps167
      go_wp2
      go_ret
      exact ⟨rfl, Low.refl _ _⟩
end Go.Proofs.YtanbgdhmfjgihaaGreatDoor

/- Two numbers held against each other: compareNumbers. -/
namespace Go.Proofs.YtanbgdhmfjgihaaGreatDoor
open Go.RowKit

theorem Six.range {w : World} {g : Nat} {k : Int} {b : Bool} {n : Int} {t x : ByteArray} {p : Option Addr} {len cap : Nat} (h : Six w g k b n t x p len cap) : w.rangeAt g 0 [.int .i64 k, .bool b, .int .i64 n, .string t, .string x, .slice p len cap] := by
  have := range6 (g := g) (off := 0) h.c0 h.c1 h.c2 h.c3 h.c4 h.c5
  exact this
theorem yields6 {ops : Array Oper} {S : World → Prop} {op : Oper} {a : Act} {k : Int} {b : Bool} {n : Int} {t x : ByteArray} {p : Option Addr} {len cap : Nat} (hw : Region.wanted op (yielded ops a.tmps) = true) (y : Operand) (ho : op.op = .load 39 y) (g : Nat) (hx : a.eval y = .pointer (some ⟨g, 0, none⟩))
    (hS : ∀ w, S w → Six w g k b n t x p len cap) : YieldsIf Tryz.prog ops S op (.agg #[.int .i64 k, .bool b, .int .i64 n, .string t, .string x, .slice p len cap]) a :=
  yieldsIf_load_mid hw 39 y ho g 0 hx [.int .i64 k, .bool b, .int .i64 n, .string t, .string x, .slice p len cap] _ (fun w h => (hS w h).range) Tryz.underlying39 rfl info28

theorem cmpSays {z z2 : Int} {s s2 : ByteArray} (h : Says z s) (h2 : Says z2 s2) (w : World) (hG : Gd w) :
    Calls Tryz.prog 193 #[.string s, .string s2] w fun e w' => e = .returned (.int .i64 (cmpZ z z2)) ∧ Low w.heap.size w w' := by
  have := cmpYes s s2 w hG h.2.2 h2.2.2 h.1 h2.1
  rwa [h.2.1, h2.2.1] at this

set_option maxRecDepth 20000 in
set_option maxHeartbeats 1600000 in
theorem cmpNumsAt (k : Int) (b : Bool) (n : Int) (t x : ByteArray) (p : Option Addr) (len cap : Nat) (k2 : Int) (b2 : Bool) (n2 : Int) (t2 x2 : ByteArray) (p2 : Option Addr) (len2 cap2 : Nat) (w : World) (hG : Gd w) (hT : Tab w) (hf : Fine n t x len) (hf2 : Fine n2 t2 x2 len2) :
    Calls Tryz.prog 182 #[.agg #[.int .i64 k, .bool b, .int .i64 n, .string t, .string x, .slice p len cap], .agg #[.int .i64 k2, .bool b2, .int .i64 n2, .string t2, .string x2, .slice p2 len2 cap2]] w fun e w' => e = .returned (.int .i64 (cmpZ (numV k n t) (numV k2 n2 t2))) ∧ Low w.heap.size w w' := by
  obtain ⟨W0, hW0⟩ : ∃ W0, W0 = (w.alloc (.cells #[.int .i64 k, .bool b, .int .i64 n, .string t, .string x, .slice p len cap] 39)).alloc (.cells #[.int .i64 k2, .bool b2, .int .i64 n2, .string t2, .string x2, .slice p2 len2 cap2] 39) := ⟨_, rfl⟩
  have l0 : Six W0 w.heap.size k b n t x p len cap := by rw [hW0]; exact (six_new _ rfl).alloc _
  have l1 : Six W0 (w.heap.size + 1) k2 b2 n2 t2 x2 p2 len2 cap2 := by rw [hW0]; exact six_new _ (by simp)
  have b0 : Low w.heap.size w W0 := by rw [hW0]; exact low2 _ _ _
  have hB := fun W => bothAreAt 2 k b n t x (.slice p len cap) k2 b2 n2 t2 x2 (.slice p2 len2 cap2) W
  have HF := Lib.hid (And.intro hf hf2)
  have H0 := Lib.hid hW0
  clear hf hf2 hW0
  cases hb : (k == 2 && k2 == 2) with
  | true =>
    rw [Bool.and_eq_true, beq_iff_eq, beq_iff_eq] at hb
    have e : cmpZ (numV k n t) (numV k2 n2 t2) = cmpZ n n2 := by unfold numV; rw [if_pos hb.1, if_pos hb.2, cmpZ_scale]
    have hbb : (k == 2 && k2 == 2) = true := by simp [hb.1, hb.2]
    rw [hbb] at hB
    have hc := fun W => cmpIntAt n n2 W
    rw [e]
    rw [show cmpZ n n2 = cmpZ n n2 from rfl]
    generalize cmpZ n n2 = r at hc ⊢
    clear hb hbb e
    go_enter Tryz.func182, Tryz.ntmps182
    go_wp2_with (first
      | (rw [← H0.out]; (with_reducible refine wpList_load6 (.tmp 2) w.heap.size l0 ?_ ?_ ?_ ?_); rfl; rfl; rfl)
      | ((with_reducible refine wpList_load6 (.tmp 3) (w.heap.size + 1) l1 ?_ ?_ ?_ ?_); rfl; rfl; rfl)
      | (go_at_call 183; (with_reducible refine (hB _).mono ?_); rintro e w1 ⟨rfl, hb1⟩; have d0 := (l0.below hb1.is).c2; have d1 := (l1.below hb1.is).c2; have b1 := low_any b0 hb1 b0.size)
      | (go_at_call 167; (with_reducible refine (hc _).mono ?_); rintro e w2 ⟨rfl, hb2⟩; replace b1 := low_any b1 hb2 b1.size))
    go_ret
    exact ⟨rfl, b1⟩
  | false =>
    rw [hb] at hB
    clear hb
    have hc1 := fun W hW hW2 => asDecimalAt k b n t x p len cap W hW hW2 HF.out.1
    have hc2 := fun W hW hW2 => asDecimalAt k2 b2 n2 t2 x2 p2 len2 cap2 W hW hW2 HF.out.2
    generalize numV k n t = z at hc1 ⊢
    generalize numV k2 n2 t2 = z2 at hc2 ⊢
    have HC1 := Lib.hid hc1
    have HC2 := Lib.hid hc2
    clear hc1 hc2
    go_enter Tryz.func182, Tryz.ntmps182
    go_wp2_with (first
      | (rw [← H0.out]; (with_reducible refine wpList_load6 (.tmp 2) w.heap.size l0 ?_ ?_ ?_ ?_); rfl; rfl; rfl)
      | ((with_reducible refine wpList_load6 (.tmp 3) (w.heap.size + 1) l1 ?_ ?_ ?_ ?_); rfl; rfl; rfl)
      | (go_at_call 183; (with_reducible refine (hB _).mono ?_); rintro e w1 ⟨rfl, hb1⟩; have d0 := l0.below hb1.is; have d1 := l1.below hb1.is; have b1 := low_any b0 hb1 b0.size))
    refine wp_region_held_drew (S := fun w' => Six w' w.heap.size k b n t x p len cap ∧ Six w' (w.heap.size + 1) k2 b2 n2 t2 x2 p2 len2 cap2 ∧ Low w.heap.size w w') (by kernel_rfl) ⟨d0, d1, b1.drew⟩ (fun hHeld => ?_)
    refine wpAnyH_take (i := 0) rfl (by kernel_rfl) (by kernel_rfl) (by kernel_rfl) (fun _ _ _ h => h) (yields6 (by rfl) (.tmp 2) rfl w.heap.size rfl (fun _ h => h.1)) hHeld ?_
    try simp only [Act.put, List.setIfInBounds_toArray]
    refine wpAnyH_take (i := 2) rfl (by kernel_rfl) (by kernel_rfl) (by kernel_rfl) (fun _ _ _ h => h) (yields6 (by rfl) (.tmp 3) rfl (w.heap.size + 1) rfl (fun _ h => h.2.1)) hHeld ?_
    try simp only [Act.put]
    obtain ⟨u1, u2, u3⟩ := hHeld
    refine wpAnyH_ready (rs := [1]) (by kernel_rfl) (by simp) ?_
    refine AllReadyH.cons rfl (fun K hK => ?_) AllReadyH.nil
    rw [if_pos (by rfl)]
    go_simp
    refine (HC1.out _ (hG.below u3.is) (hT.below u3.is)).mono ?_
    rintro e w3 ⟨s, rfl, hs, hb3⟩
    refine hK.out _ _ ⟨u1.below hb3.is, u2.below hb3.is, low_any u3 hb3 u3.size⟩ (fun hHeld => ?_)
    clear hK K u1 u2 u3 hb3
    try simp only [putS]
    obtain ⟨u1, u2, u3⟩ := hHeld
    refine wpAnyH_ready (rs := [3]) (by kernel_rfl) (by simp) ?_
    refine AllReadyH.cons rfl (fun K hK => ?_) AllReadyH.nil
    rw [if_pos (by rfl)]
    go_simp
    refine (HC2.out _ (hG.below u3.is) (hT.below u3.is)).mono ?_
    rintro e w4 ⟨s2, rfl, hs2, hb4⟩
    refine hK.out _ _ ⟨u1.below hb4.is, u2.below hb4.is, low_any u3 hb4 u3.size⟩ (fun hHeld => ?_)
    clear hK K u1 u2 u3 hb4
    try simp only [putS]
    obtain ⟨u1, u2, u3⟩ := hHeld
    refine wpAnyH_ready (rs := [4]) (by kernel_rfl) (by simp) ?_
    refine AllReadyH.cons rfl (fun K hK => ?_) AllReadyH.nil
    rw [if_pos (by rfl)]
    go_simp
    refine (cmpSays hs hs2 _ (hG.below u3.is)).mono ?_
    rintro e w5 ⟨rfl, hb5⟩
    refine hK.out _ _ ⟨u1.below hb5.is, u2.below hb5.is, low_any u3 hb5 u3.size⟩ (fun hHeld => ?_)
    clear hK K u1 u2 u3 hb5
    try simp only [putS]
    obtain ⟨u1, u2, u3⟩ := hHeld
    refine wpAnyH_ready (rs := [5]) (by kernel_rfl) (by simp) ?_
    refine AllReadyH.cons rfl (fun K hK => ?_) AllReadyH.nil
    go_simp
    refine hK.out _ _ ⟨u1, u2, u3⟩ (fun hHeld => ?_)
    clear hK K hHeld
    try simp only [putS]
    refine wpAnyH_done (by kernel_rfl) ?_ _
    go_wp2_with fail
    go_ret
    exact ⟨rfl, u3⟩
end Go.Proofs.YtanbgdhmfjgihaaGreatDoor

/- A literal that may say the same as another value: isOpen. -/
namespace Go.Proofs.YtanbgdhmfjgihaaGreatDoor
open Go.RowKit

theorem sameAtV (k : Int) (b : Bool) (n : Int) (t x : ByteArray) (q : List Val) (p : Option Addr) (cap : Nat) (k2 : Int) (b2 : Bool) (n2 : Int) (t2 x2 : ByteArray) (q2 : List Val) (p2 : Option Addr) (cap2 : Nat) (w : World) (hf : Fine n t x q.length) (hl : Held w (.slice p q.length cap) q) (hl2 : Held w (.slice p2 q2.length cap2) q2) :
    Calls Tryz.prog 76 #[.agg #[.int .i64 k, .bool b, .int .i64 n, .string t, .string x, .slice p q.length cap], .agg #[.int .i64 k2, .bool b2, .int .i64 n2, .string t2, .string x2, .slice p2 q2.length cap2]] w fun e w' => e = .returned (.bool (sameP (.mk k b n t x q) (.mk k2 b2 n2 t2 x2 q2))) ∧ Low w.heap.size w w' :=
  sameAll (.mk k b n t x q) w k b n t x q p cap (.mk k2 b2 n2 t2 x2 q2) k2 b2 n2 t2 x2 q2 p2 cap2 rfl rfl hf.hn hl hl2

end Go.Proofs.YtanbgdhmfjgihaaGreatDoor

/- Whether two values are equal: what is asked; lists, one by one. -/
namespace Go.Proofs.YtanbgdhmfjgihaaGreatDoor
open Go.RowKit

theorem Opens.below {w w' : World} {g off : Nat} {v : Val} {k : Int} {b : Bool} {n : Int} {t x : ByteArray} {q : List Val} {p : Option Addr} {cap : Nat} (o : Opens w g off v k b n t x q p cap) (h : Below w.heap.size w w') : Opens w' g off v k b n t x q p cap := by
  have hg := World.block_lt_of_cell? w _ o.c0
  exact ⟨o.e, (h.cell (p := ⟨g, off, none⟩) hg).trans o.c0, (h.cell (p := ⟨g, off + 1, none⟩) hg).trans o.c1, (h.cell (p := ⟨g, off + 2, none⟩) hg).trans o.c2, (h.cell (p := ⟨g, off + 3, none⟩) hg).trans o.c3,
    (h.cell (p := ⟨g, off + 4, none⟩) hg).trans o.c4, (h.cell (p := ⟨g, off + 5, none⟩) hg).trans o.c5, o.hf, Held.below q o.hl h⟩
theorem Opens.range {w : World} {g off : Nat} {v : Val} {k : Int} {b : Bool} {n : Int} {t x : ByteArray} {q : List Val} {p : Option Addr} {cap : Nat} (o : Opens w g off v k b n t x q p cap) : w.rangeAt g off [.int .i64 k, .bool b, .int .i64 n, .string t, .string x, .slice p q.length cap] :=
  range6 o.c0 o.c1 o.c2 o.c3 o.c4 o.c5
def E3 (a : Int) : Prop := a = 0 ∨ a = 1 ∨ a = 2
end Go.Proofs.YtanbgdhmfjgihaaGreatDoor

/- Equality goes both ways; what is the same is equal. No Go stands here. -/
namespace Go.Proofs.YtanbgdhmfjgihaaGreatDoor

mutual
theorem sameP_refl : (v : Val) → sameP v v = true
  | .mk k b n t x l => by
    unfold sameP
    rw [eachSame_refl l]
    simp
theorem eachSame_refl : (l : List Val) → eachSame l l = true
  | [] => by unfold eachSame; rfl
  | v :: r => by
    unfold eachSame
    rw [sameP_refl v, eachSame_refl r]
    rfl
end
end Go.Proofs.YtanbgdhmfjgihaaGreatDoor

/- Less of two values, and how it goes with equality. No Go stands here. -/
namespace Go.Proofs.YtanbgdhmfjgihaaGreatDoor

theorem less_irrefl : (l : List UInt8) → Op.bytesLess l l = false
  | [] => rfl
  | a :: x => by
    unfold Op.bytesLess
    rw [less_irrefl x, Bool.and_false, Bool.or_false]
    simp
theorem less_asymm : (l m : List UInt8) → Op.bytesLess l m = true → Op.bytesLess m l = false
  | [], [], h => by cases h
  | [], _ :: _, _ => rfl
  | _ :: _, [], h => by cases h
  | a :: x, b :: y, h => by
    unfold Op.bytesLess at h ⊢
    rw [Bool.or_eq_true, Bool.and_eq_true, decide_eq_true_eq, beq_iff_eq] at h
    rw [Bool.or_eq_false_iff, decide_eq_false_iff_not, Bool.and_eq_false_iff, beq_eq_false_iff_ne]
    rcases h with h | ⟨rfl, h⟩
    · exact ⟨fun g => absurd (UInt8.lt_iff_toNat_lt.1 g) (by have := UInt8.lt_iff_toNat_lt.1 h; omega), .inl (fun e => by rw [e] at h; exact absurd (UInt8.lt_iff_toNat_lt.1 h) (by omega))⟩
    · exact ⟨fun g => absurd (UInt8.lt_iff_toNat_lt.1 g) (by omega), .inr (less_asymm x y h)⟩
end Go.Proofs.YtanbgdhmfjgihaaGreatDoor

/- The order of all values: what it is, and that it is one. No Go stands here. -/
namespace Go.Proofs.YtanbgdhmfjgihaaGreatDoor

/-- The first where it tells the two apart, else the second. -/
def lexI (c d : Int) : Int := if c = 0 then d else c
def bytesI (l m : List UInt8) : Int := if Op.bytesLess l m then -1 else if Op.bytesLess m l then 1 else 0
def boolI (a b : Bool) : Int := if a = b then 0 else if b then -1 else 1
def rankI (lang k : Int) : Int :=
  if k = 0 then (if lang = 1 then 0 else 10) else if k = 5 then 1 else if k = 6 then 2 else if k = 7 then 3 else if k = 9 then 4 else if k = 8 then 5 else
  if k = 10 then 6 else if k = 4 then 7 else if k = 1 then 8 else if k = 2 then 9 else if k = 3 then 9 else 11
mutual
/-- How one value stands to another. -/
def orderI (lang : Int) : Val → Val → Int
  | .mk k b n t x l, .mk k2 b2 n2 t2 x2 l2 =>
    lexI (cmpZ (rankI lang k) (rankI lang k2))
      (if k = 5 then listI lang l l2
       else if k = 6 ∨ k = 7 then cmpZ n n2
       else if k = 1 then boolI b b2
       else if k = 2 ∨ k = 3 then lexI (cmpZ (numV k n t) (numV k2 n2 t2)) (lexI (cmpZ k k2) (if k = 3 then bytesI t.toList t2.toList else 0))
       else lexI (bytesI t.toList t2.toList) (bytesI x.toList x2.toList))
def listI (lang : Int) : List Val → List Val → Int
  | [], [] => 0
  | [], _ :: _ => -1
  | _ :: _, [] => 1
  | u :: r, v :: s => lexI (orderI lang u v) (listI lang r s)
end

/-- Three answers that go together. -/
structure Tri (x y z : Int) : Prop where
  le : x ≤ 0 → y ≤ 0 → z ≤ 0
  lt : x < 0 → y ≤ 0 → z < 0
  tl : x ≤ 0 → y < 0 → z < 0
  eq : x = 0 → y = 0 → z = 0
theorem Tri.lex {x y z x2 y2 z2 : Int} (h : Tri x y z) (h2 : Tri x2 y2 z2) : Tri (lexI x x2) (lexI y y2) (lexI z z2) := by
  obtain ⟨a, b, c, d⟩ := h
  obtain ⟨a2, b2, c2, d2⟩ := h2
  constructor <;> unfold lexI <;> intro p q <;> (repeat' split at p) <;> (repeat' split at q) <;> (repeat' split) <;> omega
theorem lexI_neg {x y : Int} : lexI (-x) (-y) = -lexI x y := by
  unfold lexI
  split <;> split <;> omega
theorem tri_cmpZ (a b c : Int) : Tri (cmpZ a b) (cmpZ b c) (cmpZ a c) := by
  constructor <;> unfold cmpZ <;> (repeat' split) <;> omega
theorem boolI_neg (a b : Bool) : boolI b a = -boolI a b := by cases a <;> cases b <;> rfl
theorem tri_bool (a b c : Bool) : Tri (boolI a b) (boolI b c) (boolI a c) := by
  cases a <;> cases b <;> cases c <;> constructor <;> decide
theorem bytesI_neg (l m : List UInt8) : bytesI m l = -bytesI l m := by
  unfold bytesI
  cases h : Op.bytesLess l m
  · cases h2 : Op.bytesLess m l <;> simp
  · rw [less_asymm _ _ h]; simp
theorem less_total : (l m : List UInt8) → Op.bytesLess l m = false → Op.bytesLess m l = false → l = m
  | [], [], _, _ => rfl
  | [], _ :: _, h, _ => by cases h
  | _ :: _, [], _, h => by cases h
  | a :: x, b :: y, h, g => by
    unfold Op.bytesLess at h g
    rw [Bool.or_eq_false_iff, decide_eq_false_iff_not, Bool.and_eq_false_iff, beq_eq_false_iff_ne] at h g
    have e : a = b := by
      have h1 := h.1
      have g1 := g.1
      rw [UInt8.lt_iff_toNat_lt] at h1 g1
      exact UInt8.toNat_inj.1 (by omega)
    subst e
    rcases h.2 with h2 | h2
    · exact absurd rfl h2
    · rcases g.2 with g2 | g2
      · exact absurd rfl g2
      · rw [less_total x y h2 g2]
theorem less_trans : (l m n : List UInt8) → Op.bytesLess l m = true → Op.bytesLess m n = true → Op.bytesLess l n = true
  | [], _, [], _, g => by
    rename_i m h
    cases m
    · cases h
    · cases g
  | [], _, _ :: _, _, _ => rfl
  | _ :: _, [], _, h, _ => by cases h
  | _ :: _, _ :: _, [], _, g => by cases g
  | a :: x, b :: y, c :: z, h, g => by
    unfold Op.bytesLess at h g ⊢
    rw [Bool.or_eq_true, Bool.and_eq_true, decide_eq_true_eq, beq_iff_eq] at h g ⊢
    rw [UInt8.lt_iff_toNat_lt] at h g ⊢
    rcases h with h | ⟨rfl, h⟩
    · rcases g with g | ⟨rfl, g⟩
      · exact .inl (by omega)
      · exact .inl h
    · rcases g with g | ⟨rfl, g⟩
      · exact .inl g
      · exact .inr ⟨rfl, less_trans x y z h g⟩
theorem tri_bytes (a b c : List UInt8) : Tri (bytesI a b) (bytesI b c) (bytesI a c) := by
  rcases h1 : Op.bytesLess a b with _ | _
  · rcases h2 : Op.bytesLess b a with _ | _
    · obtain rfl := less_total a b h1 h2
      have e : bytesI a a = 0 := by unfold bytesI; rw [less_irrefl]; simp
      rw [e]
      constructor <;> intros <;> omega
    · have e : bytesI a b = 1 := by unfold bytesI; rw [h1, h2]; simp
      rw [e]
      constructor <;> intros <;> omega
  · have e : bytesI a b = -1 := by unfold bytesI; rw [h1]; simp
    rw [e]
    rcases h3 : Op.bytesLess b c with _ | _
    · rcases h4 : Op.bytesLess c b with _ | _
      · obtain rfl := less_total b c h3 h4
        rw [e]
        constructor <;> intros <;> omega
      · have e2 : bytesI b c = 1 := by unfold bytesI; rw [h3, h4]; simp
        rw [e2]
        constructor <;> intros <;> omega
    · have e3 : bytesI a c = -1 := by unfold bytesI; rw [less_trans a b c h1 h3]; simp
      rw [e3]
      constructor <;> intros <;> omega
theorem Tri.lexIf {x y z x2 y2 z2 : Int} (h : Tri x y z) (h2 : x = 0 → y = 0 → Tri x2 y2 z2) : Tri (lexI x x2) (lexI y y2) (lexI z z2) := by
  by_cases e : x = 0 ∧ y = 0
  · exact h.lex (h2 e.1 e.2)
  · obtain ⟨a, b, c, d⟩ := h
    constructor <;> unfold lexI <;> intro p q <;> (repeat' split at p) <;> (repeat' split at q) <;> (repeat' split) <;> omega
theorem cmpZ_only {a b : Int} (h : cmpZ a b = 0) : a = b := by
  unfold cmpZ at h
  (repeat' split at h) <;> omega
theorem cmpZ_same (a : Int) : cmpZ a a = 0 := by unfold cmpZ; (repeat' split) <;> omega
theorem lexI_zero (d : Int) : lexI 0 d = d := rfl
theorem lexI_left {c : Int} (h : c ≠ 0) (d e : Int) : lexI c d = lexI c e := by unfold lexI; rw [if_neg h, if_neg h]
theorem rank5 (lang k : Int) : rankI lang k = 1 ↔ k = 5 := by unfold rankI; (repeat' split) <;> omega
theorem rank67 (lang k : Int) : (rankI lang k = 2 ∨ rankI lang k = 3) ↔ (k = 6 ∨ k = 7) := by unfold rankI; (repeat' split) <;> omega
theorem rank1 (lang k : Int) : rankI lang k = 8 ↔ k = 1 := by unfold rankI; (repeat' split) <;> omega
theorem rank23 (lang k : Int) : rankI lang k = 9 ↔ (k = 2 ∨ k = 3) := by unfold rankI; (repeat' split) <;> omega
theorem rank_cat {lang k k2 : Int} (h : rankI lang k = rankI lang k2) : (k = 5 ↔ k2 = 5) ∧ ((k = 6 ∨ k = 7) ↔ (k2 = 6 ∨ k2 = 7)) ∧ (k = 1 ↔ k2 = 1) ∧ ((k = 2 ∨ k = 3) ↔ (k2 = 2 ∨ k2 = 3)) := by
  rw [← rank5 lang k, ← rank5 lang k2, ← rank67 lang k, ← rank67 lang k2, ← rank1 lang k, ← rank1 lang k2, ← rank23 lang k, ← rank23 lang k2, h]
  exact ⟨.rfl, .rfl, .rfl, .rfl⟩
/-- How two of one rank stand, but for lists. -/
def innerI (k n : Int) (b : Bool) (t x : ByteArray) (k2 n2 : Int) (b2 : Bool) (t2 x2 : ByteArray) : Int :=
  if k = 6 ∨ k = 7 then cmpZ n n2
  else if k = 1 then boolI b b2
  else if k = 2 ∨ k = 3 then lexI (cmpZ (numV k n t) (numV k2 n2 t2)) (lexI (cmpZ k k2) (if k = 3 then bytesI t.toList t2.toList else 0))
  else lexI (bytesI t.toList t2.toList) (bytesI x.toList x2.toList)
theorem orderI_mk (lang : Int) (k : Int) (b : Bool) (n : Int) (t x : ByteArray) (l : List Val) (k2 : Int) (b2 : Bool) (n2 : Int) (t2 x2 : ByteArray) (l2 : List Val) : orderI lang (.mk k b n t x l) (.mk k2 b2 n2 t2 x2 l2) =
    lexI (cmpZ (rankI lang k) (rankI lang k2)) (if k = 5 then listI lang l l2 else innerI k n b t x k2 n2 b2 t2 x2) := by
  unfold orderI innerI
  rfl
theorem inner_neg {lang k k2 : Int} (h : rankI lang k = rankI lang k2) (n : Int) (b : Bool) (t x : ByteArray) (n2 : Int) (b2 : Bool) (t2 x2 : ByteArray) : innerI k2 n2 b2 t2 x2 k n b t x = -innerI k n b t x k2 n2 b2 t2 x2 := by
  obtain ⟨_, c2, c3, c4⟩ := rank_cat h
  unfold innerI
  by_cases h2 : k = 6 ∨ k = 7
  · rw [if_pos h2, if_pos (c2.1 h2), cmpZ_swap]
  · rw [if_neg h2, if_neg (fun e => h2 (c2.2 e))]
    by_cases h3 : k = 1
    · rw [if_pos h3, if_pos (c3.1 h3), boolI_neg]
    · rw [if_neg h3, if_neg (fun e => h3 (c3.2 e))]
      by_cases h4 : k = 2 ∨ k = 3
      · rw [if_pos h4, if_pos (c4.1 h4)]
        by_cases e : k = k2
        · subst e
          by_cases h5 : k = 3
          · rw [if_pos h5, if_pos h5, cmpZ_same, lexI_zero, lexI_zero, ← lexI_neg, ← cmpZ_swap, ← bytesI_neg]
          · rw [if_neg h5, if_neg h5, cmpZ_same, lexI_zero, ← lexI_neg, ← cmpZ_swap, Int.neg_zero]
        · have d : cmpZ k k2 ≠ 0 := fun z => e (cmpZ_only z)
          have d2 : cmpZ k2 k ≠ 0 := fun z => e (cmpZ_only z).symm
          rw [lexI_left d _ (-0), lexI_left d2 _ (- -0), cmpZ_swap (numV k n t), cmpZ_swap k k2, lexI_neg, lexI_neg]
      · rw [if_neg h4, if_neg (fun e => h4 (c4.2 e)), bytesI_neg t.toList, bytesI_neg x.toList, lexI_neg]
theorem inner_tri {lang k k2 k3 : Int} (h : rankI lang k = rankI lang k2) (n : Int) (b : Bool) (t x : ByteArray) (n2 : Int) (b2 : Bool) (t2 x2 : ByteArray) (n3 : Int) (b3 : Bool) (t3 x3 : ByteArray) :
    Tri (innerI k n b t x k2 n2 b2 t2 x2) (innerI k2 n2 b2 t2 x2 k3 n3 b3 t3 x3) (innerI k n b t x k3 n3 b3 t3 x3) := by
  obtain ⟨_, c2, c3, c4⟩ := rank_cat h
  unfold innerI
  by_cases h2 : k = 6 ∨ k = 7
  · rw [if_pos h2, if_pos (c2.1 h2), if_pos h2]
    exact tri_cmpZ _ _ _
  · rw [if_neg h2, if_neg (fun e => h2 (c2.2 e)), if_neg h2]
    by_cases h3 : k = 1
    · rw [if_pos h3, if_pos (c3.1 h3), if_pos h3]
      exact tri_bool _ _ _
    · rw [if_neg h3, if_neg (fun e => h3 (c3.2 e)), if_neg h3]
      by_cases h4 : k = 2 ∨ k = 3
      · rw [if_pos h4, if_pos (c4.1 h4), if_pos h4]
        refine (tri_cmpZ _ _ _).lex ((tri_cmpZ k k2 k3).lexIf fun e e' => ?_)
        obtain rfl := cmpZ_only e
        by_cases h5 : k = 3
        · rw [if_pos h5, if_pos h5, if_pos h5]
          exact tri_bytes _ _ _
        · rw [if_neg h5, if_neg h5, if_neg h5]
          constructor <;> intros <;> omega
      · rw [if_neg h4, if_neg (fun e => h4 (c4.2 e)), if_neg h4]
        exact (tri_bytes _ _ _).lex (tri_bytes _ _ _)
mutual
theorem orderI_neg (lang : Int) : (v v2 : Val) → orderI lang v2 v = -orderI lang v v2
  | .mk k b n t x l, .mk k2 b2 n2 t2 x2 l2 => by
    rw [orderI_mk, orderI_mk]
    by_cases h : rankI lang k = rankI lang k2
    · rw [h, cmpZ_same, lexI_zero, lexI_zero]
      have c := (rank_cat h).1
      by_cases h5 : k = 5
      · rw [if_pos h5, if_pos (c.1 h5)]
        exact listI_neg lang l l2
      · rw [if_neg h5, if_neg (fun e => h5 (c.2 e))]
        exact inner_neg h _ _ _ _ _ _ _ _
    · have d : cmpZ (rankI lang k) (rankI lang k2) ≠ 0 := fun z => h (cmpZ_only z)
      have d2 : cmpZ (rankI lang k2) (rankI lang k) ≠ 0 := fun z => h (cmpZ_only z).symm
      rw [lexI_left d _ (-0), lexI_left d2 _ (- -0), cmpZ_swap (rankI lang k), lexI_neg]
theorem listI_neg (lang : Int) : (l m : List Val) → listI lang m l = -listI lang l m
  | [], [] => by unfold listI; rfl
  | [], _ :: _ => by unfold listI; rfl
  | _ :: _, [] => by unfold listI; rfl
  | u :: r, v :: s => by
    unfold listI
    rw [orderI_neg lang u v, listI_neg lang r s, lexI_neg]
end
mutual
theorem orderI_tri (lang : Int) : (v v2 v3 : Val) → Tri (orderI lang v v2) (orderI lang v2 v3) (orderI lang v v3)
  | .mk k b n t x l, .mk k2 b2 n2 t2 x2 l2, .mk k3 b3 n3 t3 x3 l3 => by
    rw [orderI_mk, orderI_mk, orderI_mk]
    refine (tri_cmpZ _ _ _).lexIf fun e e' => ?_
    have h := cmpZ_only e
    have c := (rank_cat h).1
    by_cases h5 : k = 5
    · rw [if_pos h5, if_pos (c.1 h5), if_pos h5]
      exact listI_tri lang l l2 l3
    · rw [if_neg h5, if_neg (fun e => h5 (c.2 e)), if_neg h5]
      exact inner_tri h _ _ _ _ _ _ _ _ _ _ _ _
theorem listI_tri (lang : Int) : (l l2 l3 : List Val) → Tri (listI lang l l2) (listI lang l2 l3) (listI lang l l3)
  | [], [], [] => by unfold listI; constructor <;> intros <;> omega
  | [], [], _ :: _ => by unfold listI; constructor <;> intros <;> omega
  | [], _ :: _, [] => by unfold listI; constructor <;> intros <;> omega
  | [], _ :: _, _ :: _ => by
    unfold listI
    constructor <;> intros <;> omega
  | _ :: _, [], [] => by unfold listI; constructor <;> intros <;> omega
  | _ :: _, [], _ :: _ => by unfold listI; constructor <;> intros <;> omega
  | _ :: _, _ :: _, [] => by
    unfold listI
    constructor <;> intros <;> omega
  | u :: r, v :: s, z :: q => by
    unfold listI
    exact (orderI_tri lang u v z).lex (listI_tri lang r s q)
end
end Go.Proofs.YtanbgdhmfjgihaaGreatDoor
