/- Texts of one kind, one behind the other: each says ahead of itself what it shows. -/
import Derived.Test.YtoifjjgakblhhaaGreatDoorGo
/- Whether two values are the same: the program's answer. -/
namespace Go.Proofs.YtoifjjgakblhhaaGreatDoor
open Go.RowKit

mutual
/-- Whether two values are the same. -/
def sameP : Val → Val → Bool
  | .mk k b n t x l, .mk k2 b2 n2 t2 x2 l2 => (k == k2) && ((b == b2) && ((n == n2) && ((t.toList == t2.toList) && ((x.toList == x2.toList) && ((l.length == l2.length) && eachSame l l2)))))
def eachSame : List Val → List Val → Bool
  | v :: r, v2 :: r2 => sameP v v2 && eachSame r r2
  | _, _ => true
end
theorem eachSame_no : (l l2 : List Val) → ∀ (i : Nat) (h : i < l.length) (h2 : i < l2.length), sameP l[i] l2[i] = false → eachSame l l2 = false
  | [], _, i, h, _, _ => absurd h (by simp)
  | _ :: _, [], i, _, h2, _ => absurd h2 (by simp)
  | v :: r, v2 :: r2, i, h, h2, e => by
    unfold eachSame
    match i, h, h2 with
    | 0, _, _ => rw [show sameP v v2 = false from e]; rfl
    | i + 1, h, h2 => rw [eachSame_no r r2 i (by simpa using h) (by simpa using h2) e, Bool.and_false]
theorem eachSame_yes : (l l2 : List Val) → (∀ (i : Nat) (h : i < l.length) (h2 : i < l2.length), sameP l[i] l2[i] = true) → eachSame l l2 = true
  | [], _, _ => by unfold eachSame; rfl
  | _ :: _, [], _ => by unfold eachSame; rfl
  | v :: r, v2 :: r2, h => by
    unfold eachSame
    rw [show sameP v v2 = true from h 0 (by simp) (by simp), Bool.true_and]
    exact eachSame_yes r r2 fun i h1 h2 => h (i + 1) (by simpa using h1) (by simpa using h2)

/-- A value's cells, and where its list lies. -/
structure Opens (w : World) (g off : Nat) (v : Val) (k : Int) (b : Bool) (n : Int) (t x : ByteArray) (q : List Val) (p : Option Addr) (cap : Nat) : Prop where
  e : v = .mk k b n t x q
  c0 : w.cell? ⟨g, off, none⟩ = some (.int .i64 k)
  c1 : w.cell? ⟨g, off + 1, none⟩ = some (.bool b)
  c2 : w.cell? ⟨g, off + 2, none⟩ = some (.int .i64 n)
  c3 : w.cell? ⟨g, off + 3, none⟩ = some (.string t)
  c4 : w.cell? ⟨g, off + 4, none⟩ = some (.string x)
  c5 : w.cell? ⟨g, off + 5, none⟩ = some (.slice p q.length cap)
  hf : Fine n t x q.length
  hl : Held w (.slice p q.length cap) q
theorem HoldsOne.opens {w : World} {g off : Nat} : {v : Val} → HoldsOne w g off v → ∃ k b n t x q p cap, Opens w g off v k b n t x q p cap
  | .mk k b n t x q, h => by
    unfold HoldsOne at h
    obtain ⟨h0, h1, h2, h3, h4, hf, L, h5, hl⟩ := h
    obtain ⟨p, cap, rfl⟩ := held_slice hl
    exact ⟨k, b, n, t, x, q, p, cap, rfl, h0, h1, h2, h3, h4, h5, hf, hl⟩
theorem Held.form {w : World} {p : Option Addr} {cap n : Nat} {v : Val} {r : List Val} (h : Held w (.slice p n cap) (v :: r)) : ∃ g off, p = some ⟨g, off, none⟩ ∧ Holds w g off (v :: r) := by
  unfold Held at h
  obtain ⟨g, off, cap', e, hv, hr⟩ := h
  cases e
  refine ⟨g, off, rfl, ?_⟩
  unfold Holds
  exact ⟨hv, hr⟩

/-- Same's contract at a value. -/
def SameAt (v : Val) : Prop := ∀ (W : World) (k : Int) (b : Bool) (n : Int) (t x : ByteArray) (q : List Val) (p : Option Addr) (cap : Nat) (v2 : Val) (k2 : Int) (b2 : Bool) (n2 : Int) (t2 x2 : ByteArray) (q2 : List Val) (p2 : Option Addr) (cap2 : Nat),
  v = .mk k b n t x q → v2 = .mk k2 b2 n2 t2 x2 q2 → q.length ≤ 2097152 → Held W (.slice p q.length cap) q → Held W (.slice p2 q2.length cap2) q2 →
  Calls Tryz.prog 17 #[.agg #[.int .i64 k, .bool b, .int .i64 n, .string t, .string x, .slice p q.length cap], .agg #[.int .i64 k2, .bool b2, .int .i64 n2, .string t2, .string x2, .slice p2 q2.length cap2]] W
    fun e w' => e = .returned (.bool (sameP v v2)) ∧ Below W.heap.size W w'

theorem eqFuncLen (p p2 : Option Addr) (n n2 cap cap2 : Nat) (w : World) (h : ¬ n = n2) :
    Calls Tryz.prog 43 #[.slice p n cap, .slice p2 n2 cap2, .func (.func 17) #[] #[]] w fun e w' => e = .returned (.bool false) ∧ Below w.heap.size w w' := by
  have h1 : ((n : Int) != n2) = true := by simp; omega
  clear h
  go_enter Tryz.func43, Tryz.ntmps43
  go_wp2_with fail
  go_ret
  exact ⟨rfl, Below.refl _ _⟩
theorem eqFuncNone (p p2 : Option Addr) (cap cap2 : Nat) (w : World) :
    Calls Tryz.prog 43 #[.slice p 0 cap, .slice p2 0 cap2, .func (.func 17) #[] #[]] w fun e w' => e = .returned (.bool true) ∧ Below w.heap.size w w' := by
  go_enter Tryz.func43, Tryz.ntmps43
  go_wp2_with fail
  go_loopw [17] (fun i wr => i = .int .i64 0 ∧ wr = w) (fun _ _ => 0)
  case atStart => exact ⟨rfl, rfl⟩
  case round =>
    obtain ⟨rfl, rfl⟩ := hrel
    go_wp2_with fail
    go_ret
    exact ⟨rfl, Below.refl _ _⟩

set_option maxHeartbeats 1600000 in
theorem eqFuncSome (l l2 : List Val) (g off cap g2 off2 cap2 : Nat) (w : World) (hl : Holds w g off l) (hl2 : Holds w g2 off2 l2) (hlen : l2.length = l.length) (hn : l.length ≤ 2097152) (each : ∀ v ∈ l, SameAt v) :
    Calls Tryz.prog 43 #[.slice (some ⟨g, off, none⟩) l.length cap, .slice (some ⟨g2, off2, none⟩) l.length cap2, .func (.func 17) #[] #[]] w fun e w' => e = .returned (.bool (eachSame l l2)) ∧ Below w.heap.size w w' := by
  have HH := Lib.hid hl
  have HH2 := Lib.hid hl2
  have HE := Lib.hid each
  have HL := Lib.hid hlen
  clear hl hl2 each hlen
  go_enter Tryz.func43, Tryz.ntmps43
  go_wp2_with fail
  go_loopw [17] (fun i wr => ∃ j : Nat, j ≤ l.length ∧ i = .int .i64 j ∧ Below w.heap.size w wr ∧ ∀ (i : Nat) (h : i < l.length) (h2 : i < l2.length), i < j → sameP l[i] l2[i] = true) (fun i _ => l.length - (intOf i).toNat)
  case atStart => exact ⟨0, Nat.zero_le _, rfl, Below.refl _ _, fun _ _ _ h => absurd h (by omega)⟩
  case round =>
    obtain ⟨j, hj, rfl, hb, hall⟩ := hrel
    have HA := Lib.hid hall
    clear hall
    by_cases hlt : j < l.length
    · have hlt2 : j < l2.length := by have := HL.out; omega
      obtain ⟨k, b, n, t, x, q, p, cp, o1⟩ := ((Holds.at_ l off HH.out j hlt).below _ hb).opens
      obtain ⟨k2, b2, n2, t2, x2, q2, p2, cp2, o2⟩ := ((Holds.at_ l2 off2 HH2.out j hlt2).below _ hb).opens
      obtain ⟨c1, hc1⟩ : ∃ c1, c1 = Obj.cells #[.int .i64 k, .bool b, .int .i64 n, .string t, .string x, .slice p q.length cp] 28 := ⟨_, rfl⟩
      obtain ⟨c2, hc2⟩ : ∃ c2, c2 = Obj.cells #[.int .i64 k2, .bool b2, .int .i64 n2, .string t2, .string x2, .slice p2 q2.length cp2] 28 := ⟨_, rfl⟩
      have bb := below2 wr c1 c2
      have hc := HE.out l[j] (List.getElem_mem hlt) ((wr.alloc c1).alloc c2) k b n t x q p cp l2[j] k2 b2 n2 t2 x2 q2 p2 cp2 o1.e o2.e o1.hf.hn (Held.below q o1.hl bb) (Held.below q2 o2.hl bb)
      obtain ⟨r, hr⟩ : ∃ r, r = sameP l[j] l2[j] := ⟨_, rfl⟩
      rw [← hr] at hc
      have l0 : Six ((wr.alloc c1).alloc c2) wr.heap.size k b n t x p q.length cp := by rw [hc1]; exact (six_new _ rfl).alloc _
      have l1 : Six ((wr.alloc c1).alloc c2) (wr.heap.size + 1) k2 b2 n2 t2 x2 p2 q2.length cp2 := by rw [hc2]; exact six_new _ (by simp)
      have hs : w.heap.size ≤ wr.heap.size := hb.size
      have b0 : Below w.heap.size w ((wr.alloc c1).alloc c2) := (hb.alloc hs _).alloc (by simp; omega) _
      have z0 : w.heap.size ≤ ((wr.alloc c1).alloc c2).heap.size := b0.size
      have oo2 : Opens (wr.alloc c1) g2 (off2 + j * 6) l2[j] k2 b2 n2 t2 x2 q2 p2 cp2 := by
        have h1 := below1 wr c1
        have hg := World.block_lt_of_cell? wr _ o2.c0
        exact ⟨o2.e, (h1.cell (p := ⟨g2, off2 + j * 6, none⟩) hg).trans o2.c0, (h1.cell (p := ⟨g2, off2 + j * 6 + 1, none⟩) hg).trans o2.c1, (h1.cell (p := ⟨g2, off2 + j * 6 + 2, none⟩) hg).trans o2.c2, (h1.cell (p := ⟨g2, off2 + j * 6 + 3, none⟩) hg).trans o2.c3,
          (h1.cell (p := ⟨g2, off2 + j * 6 + 4, none⟩) hg).trans o2.c4, (h1.cell (p := ⟨g2, off2 + j * 6 + 5, none⟩) hg).trans o2.c5, o2.hf, Held.below q2 o2.hl h1⟩
      have O1 := Lib.hid o1
      have O2 := Lib.hid oo2
      have HR := Lib.hid hr
      clear o1 o2 oo2 bb hr
      subst hc1 hc2
      cases r with
      | true =>
        go_wp2_with (first
          | ((with_reducible refine wpList_loadMid6 (.tmp 20) g (off + j * 6) k b n t x (.slice p q.length cp) O1.out.c0 O1.out.c1 O1.out.c2 O1.out.c3 O1.out.c4 O1.out.c5 ?_ ?_ ?_ ?_); rfl; rfl; rfl)
          | ((with_reducible refine wpList_loadMid6 (.tmp 24) g2 (off2 + j * 6) k2 b2 n2 t2 x2 (.slice p2 q2.length cp2) O2.out.c0 O2.out.c1 O2.out.c2 O2.out.c3 O2.out.c4 O2.out.c5 ?_ ?_ ?_ ?_); rfl; rfl; rfl)
          | ((with_reducible refine wpList_load6 (.tmp 8) wr.heap.size l0 ?_ ?_ ?_ ?_); rfl; rfl; rfl)
          | ((with_reducible refine wpList_load6 (.tmp 9) (wr.heap.size + 1) l1 ?_ ?_ ?_ ?_); rfl; rfl; rfl)
          | (go_at_call 17; (with_reducible refine hc.mono ?_); rintro e w3 ⟨rfl, hb3⟩; have b3 := below_any b0 hb3 z0))
        go_roundw
        case rel =>
          refine ⟨j + 1, by omega, by go_num, b3, fun i hi hi2 hlt' => ?_⟩
          by_cases e : i = j
          · subst e; exact HR.out.symm
          · exact HA.out i hi hi2 (by omega)
        case measure => simp [intOf]; omega
      | false =>
        go_wp2_with (first
          | ((with_reducible refine wpList_loadMid6 (.tmp 20) g (off + j * 6) k b n t x (.slice p q.length cp) O1.out.c0 O1.out.c1 O1.out.c2 O1.out.c3 O1.out.c4 O1.out.c5 ?_ ?_ ?_ ?_); rfl; rfl; rfl)
          | ((with_reducible refine wpList_loadMid6 (.tmp 24) g2 (off2 + j * 6) k2 b2 n2 t2 x2 (.slice p2 q2.length cp2) O2.out.c0 O2.out.c1 O2.out.c2 O2.out.c3 O2.out.c4 O2.out.c5 ?_ ?_ ?_ ?_); rfl; rfl; rfl)
          | ((with_reducible refine wpList_load6 (.tmp 8) wr.heap.size l0 ?_ ?_ ?_ ?_); rfl; rfl; rfl)
          | ((with_reducible refine wpList_load6 (.tmp 9) (wr.heap.size + 1) l1 ?_ ?_ ?_ ?_); rfl; rfl; rfl)
          | (go_at_call 17; (with_reducible refine hc.mono ?_); rintro e w3 ⟨rfl, hb3⟩; have b3 := below_any b0 hb3 z0))
        go_ret
        exact ⟨by rw [eachSame_no l l2 j hlt hlt2 HR.out.symm]; rfl, b3⟩
    · go_wp2_with fail
      go_ret
      exact ⟨by rw [eachSame_yes l l2 fun i h h2 => HA.out i h h2 (by omega)]; rfl, hb⟩

theorem eqFuncAt (l l2 : List Val) (p p2 : Option Addr) (cap cap2 : Nat) (w : World) (hl : Held w (.slice p l.length cap) l) (hl2 : Held w (.slice p2 l2.length cap2) l2) (hn : l.length ≤ 2097152) (each : ∀ v ∈ l, SameAt v) :
    Calls Tryz.prog 43 #[.slice p l.length cap, .slice p2 l2.length cap2, .func (.func 17) #[] #[]] w fun e w' => e = .returned (.bool ((l.length == l2.length) && eachSame l l2)) ∧ Below w.heap.size w w' := by
  by_cases h : l.length = l2.length
  · rw [show (l.length == l2.length) = true by simpa using h, Bool.true_and, ← h]
    cases l with
    | nil =>
      unfold eachSame
      exact eqFuncNone _ _ _ _ _
    | cons v r =>
      cases l2 with
      | nil => simp at h
      | cons v2 r2 =>
        obtain ⟨g, off, rfl, hh⟩ := hl.form
        obtain ⟨g2, off2, rfl, hh2⟩ := hl2.form
        exact eqFuncSome (v :: r) (v2 :: r2) g off cap g2 off2 cap2 w hh hh2 h.symm hn each
  · rw [show (l.length == l2.length) = false by simpa using h, Bool.false_and]
    exact eqFuncLen p p2 _ _ cap cap2 w h
end Go.Proofs.YtoifjjgakblhhaaGreatDoor

/- Same, for values in one another. -/
namespace Go.Proofs.YtoifjjgakblhhaaGreatDoor
open Go.RowKit

set_option maxHeartbeats 1600000 in
theorem same_step (v : Val) (k : Int) (b : Bool) (n : Int) (t x : ByteArray) (q : List Val) (ev : v = .mk k b n t x q) (each : ∀ u ∈ q, SameAt u) : SameAt v := by
  subst ev
  intro W k1 b1 n1 t1 x1 q1 p cap v2 k2 b2 n2 t2 x2 q2 p2 cap2 e1 e2 hn hl hl2
  cases e1
  subst e2
  unfold sameP
  obtain ⟨c1, hc1⟩ : ∃ c1, c1 = Obj.cells #[.int .i64 k, .bool b, .int .i64 n, .string t, .string x, .slice p q.length cap] 28 := ⟨_, rfl⟩
  obtain ⟨c2, hc2⟩ : ∃ c2, c2 = Obj.cells #[.int .i64 k2, .bool b2, .int .i64 n2, .string t2, .string x2, .slice p2 q2.length cap2] 28 := ⟨_, rfl⟩
  have b0 := below2 W c1 c2
  have hc := eqFuncAt q q2 p p2 cap cap2 ((W.alloc c1).alloc c2) (Held.below q hl b0) (Held.below q2 hl2 b0) hn each
  have l0 : Six ((W.alloc c1).alloc c2) W.heap.size k b n t x p q.length cap := by rw [hc1]; exact (six_new _ rfl).alloc _
  have l1 : Six ((W.alloc c1).alloc c2) (W.heap.size + 1) k2 b2 n2 t2 x2 p2 q2.length cap2 := by rw [hc2]; exact six_new _ (by simp)
  have z0 := b0.size
  have f0 := l0.c0
  have f1 := l0.c1
  have f2 := l0.c2
  have f3 := l0.c3
  have f4 := l0.c4
  have f5 := l0.c5
  have g0 := l1.c0
  have g1 := l1.c1
  have g2 := l1.c2
  have g3 := l1.c3
  have g4 := l1.c4
  have g5 := l1.c5
  clear l0 l1 hl hl2 each hn
  subst hc1 hc2
  cases a0 : (k == k2) with
  | false =>
    rw [Bool.false_and]
    go_enter Tryz.func17, Tryz.ntmps17
    go_wp2_with fail
    go_ret
    exact ⟨rfl, b0⟩
  | true =>
    rw [Bool.true_and]
    cases a1 : (b == b2) with
    | false =>
      rw [Bool.false_and]
      go_enter Tryz.func17, Tryz.ntmps17
      go_wp2_with fail
      go_ret
      exact ⟨rfl, b0⟩
    | true =>
      rw [Bool.true_and]
      cases a2 : (n == n2) with
      | false =>
        rw [Bool.false_and]
        go_enter Tryz.func17, Tryz.ntmps17
        go_wp2_with fail
        go_ret
        exact ⟨rfl, b0⟩
      | true =>
        rw [Bool.true_and]
        cases a3 : (t.toList == t2.toList) with
        | false =>
          rw [Bool.false_and]
          go_enter Tryz.func17, Tryz.ntmps17
          go_wp2_with fail
          go_ret
          exact ⟨rfl, b0⟩
        | true =>
          rw [Bool.true_and]
          cases a4 : (x.toList == x2.toList) with
          | false =>
            rw [Bool.false_and]
            go_enter Tryz.func17, Tryz.ntmps17
            go_wp2_with fail
            go_ret
            exact ⟨rfl, b0⟩
          | true =>
            rw [Bool.true_and]
            generalize (q.length == q2.length && eachSame q q2) = r at hc ⊢
            go_enter Tryz.func17, Tryz.ntmps17
            go_wp2_with (go_at_call 43; (with_reducible refine hc.mono ?_); rintro e w3 ⟨rfl, hb3⟩; replace b0 := below_any b0 hb3 z0)
            go_ret
            exact ⟨rfl, b0⟩

mutual
theorem sameAll : (v : Val) → SameAt v
  | .mk k b n t x q => same_step _ k b n t x q rfl (sameEach q)
theorem sameEach : (q : List Val) → ∀ u ∈ q, SameAt u
  | [], _, h => absurd h (by simp)
  | v :: r, u, h => by
    rcases List.mem_cons.1 h with h | h
    · rw [h]; exact sameAll v
    · exact sameEach r u h
end
end Go.Proofs.YtoifjjgakblhhaaGreatDoor
