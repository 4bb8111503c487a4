/- Texts of one kind, one behind the other: each says ahead of itself what it shows. -/
import Derived.Test.YtoifjjgakblhhaaGreatDoorHaf
import Derived.Test.YtoifjjgakblhhaaGreatDoorHah
import Derived.Deep.RegionHeld3
import Derived.Deep.RegionWith
import Derived.Test.YtoifjjgakblhhaaGreatDoorHag
/- Whether two values are the same: the program's answer. -/
namespace Go.Proofs.YtoifjjgakblhhaaGreatDoor
open Go.RowKit

mutual
/-- Whether two values are the same. -/
def sameP : Val → Val → Bool
  | .mk k b n t x l, .mk k2 b2 n2 t2 x2 l2 => (k == k2) && ((b == b2) && ((n == n2) && ((t.toList == t2.toList) && ((x.toList == x2.toList) && ((l.length == l2.length) && eachSame l l2)))))
def eachSame : List Val → List Val → Bool
  | v :: r, v2 :: r2 => sameP v v2 && eachSame r r2
  | _, _ => true
end
theorem eachSame_no : (l l2 : List Val) → ∀ (i : Nat) (h : i < l.length) (h2 : i < l2.length), sameP l[i] l2[i] = false → eachSame l l2 = false
  | [], _, i, h, _, _ => absurd h (by simp)
  | _ :: _, [], i, _, h2, _ => absurd h2 (by simp)
  | v :: r, v2 :: r2, i, h, h2, e => by
    unfold eachSame
    match i, h, h2 with
    | 0, _, _ => rw [show sameP v v2 = false from e]; rfl
    | i + 1, h, h2 => rw [eachSame_no r r2 i (by simpa using h) (by simpa using h2) e, Bool.and_false]
theorem eachSame_yes : (l l2 : List Val) → (∀ (i : Nat) (h : i < l.length) (h2 : i < l2.length), sameP l[i] l2[i] = true) → eachSame l l2 = true
  | [], _, _ => by unfold eachSame; rfl
  | _ :: _, [], _ => by unfold eachSame; rfl
  | v :: r, v2 :: r2, h => by
    unfold eachSame
    rw [show sameP v v2 = true from h 0 (by simp) (by simp), Bool.true_and]
    exact eachSame_yes r r2 fun i h1 h2 => h (i + 1) (by simpa using h1) (by simpa using h2)

/-- A value's cells, and where its list lies. -/
structure Opens (w : World) (g off : Nat) (v : Val) (k : Int) (b : Bool) (n : Int) (t x : ByteArray) (q : List Val) (p : Option Addr) (cap : Nat) : Prop where
  e : v = .mk k b n t x q
  c0 : w.cell? ⟨g, off, none⟩ = some (.int .i64 k)
  c1 : w.cell? ⟨g, off + 1, none⟩ = some (.bool b)
  c2 : w.cell? ⟨g, off + 2, none⟩ = some (.int .i64 n)
  c3 : w.cell? ⟨g, off + 3, none⟩ = some (.string t)
  c4 : w.cell? ⟨g, off + 4, none⟩ = some (.string x)
  c5 : w.cell? ⟨g, off + 5, none⟩ = some (.slice p q.length cap)
  hf : Fine n t x q.length
  hl : Held w (.slice p q.length cap) q
theorem HoldsOne.opens {w : World} {g off : Nat} : {v : Val} → HoldsOne w g off v → ∃ k b n t x q p cap, Opens w g off v k b n t x q p cap
  | .mk k b n t x q, h => by
    unfold HoldsOne at h
    obtain ⟨h0, h1, h2, h3, h4, hf, L, h5, hl⟩ := h
    obtain ⟨p, cap, rfl⟩ := held_slice hl
    exact ⟨k, b, n, t, x, q, p, cap, rfl, h0, h1, h2, h3, h4, h5, hf, hl⟩
theorem Held.form {w : World} {p : Option Addr} {cap n : Nat} {v : Val} {r : List Val} (h : Held w (.slice p n cap) (v :: r)) : ∃ g off, p = some ⟨g, off, none⟩ ∧ Holds w g off (v :: r) := by
  unfold Held at h
  obtain ⟨g, off, cap', e, hv, hr⟩ := h
  cases e
  refine ⟨g, off, rfl, ?_⟩
  unfold Holds
  exact ⟨hv, hr⟩

/-- Same's contract at a value. -/
def SameAt (v : Val) : Prop := ∀ (W : World) (k : Int) (b : Bool) (n : Int) (t x : ByteArray) (q : List Val) (p : Option Addr) (cap : Nat) (v2 : Val) (k2 : Int) (b2 : Bool) (n2 : Int) (t2 x2 : ByteArray) (q2 : List Val) (p2 : Option Addr) (cap2 : Nat),
  v = .mk k b n t x q → v2 = .mk k2 b2 n2 t2 x2 q2 → q.length ≤ 2097152 → Held W (.slice p q.length cap) q → Held W (.slice p2 q2.length cap2) q2 →
  Calls Tryz.prog 17 #[.agg #[.int .i64 k, .bool b, .int .i64 n, .string t, .string x, .slice p q.length cap], .agg #[.int .i64 k2, .bool b2, .int .i64 n2, .string t2, .string x2, .slice p2 q2.length cap2]] W
    fun e w' => e = .returned (.bool (sameP v v2)) ∧ Below W.heap.size W w'

theorem eqFuncLen (p p2 : Option Addr) (n n2 cap cap2 : Nat) (w : World) (h : ¬ n = n2) :
    Calls Tryz.prog 43 #[.slice p n cap, .slice p2 n2 cap2, .func (.func 17) #[] #[]] w fun e w' => e = .returned (.bool false) ∧ Below w.heap.size w w' := by
  have h1 : ((n : Int) != n2) = true := by simp; omega
  clear h
  go_enter Tryz.func43, Tryz.ntmps43
  go_wp2_with fail
  go_ret
  exact ⟨rfl, Below.refl _ _⟩
theorem eqFuncNone (p p2 : Option Addr) (cap cap2 : Nat) (w : World) :
    Calls Tryz.prog 43 #[.slice p 0 cap, .slice p2 0 cap2, .func (.func 17) #[] #[]] w fun e w' => e = .returned (.bool true) ∧ Below w.heap.size w w' := by
  go_enter Tryz.func43, Tryz.ntmps43
  go_wp2_with fail
  go_loopw [17] (fun i wr => i = .int .i64 0 ∧ wr = w) (fun _ _ => 0)
  case atStart => exact ⟨rfl, rfl⟩
  case round =>
    obtain ⟨rfl, rfl⟩ := hrel
    go_wp2_with fail
    go_ret
    exact ⟨rfl, Below.refl _ _⟩

set_option maxHeartbeats 1600000 in
theorem eqFuncSome (l l2 : List Val) (g off cap g2 off2 cap2 : Nat) (w : World) (hl : Holds w g off l) (hl2 : Holds w g2 off2 l2) (hlen : l2.length = l.length) (hn : l.length ≤ 2097152) (each : ∀ v ∈ l, SameAt v) :
    Calls Tryz.prog 43 #[.slice (some ⟨g, off, none⟩) l.length cap, .slice (some ⟨g2, off2, none⟩) l.length cap2, .func (.func 17) #[] #[]] w fun e w' => e = .returned (.bool (eachSame l l2)) ∧ Below w.heap.size w w' := by
  have HH := Lib.hid hl
  have HH2 := Lib.hid hl2
  have HE := Lib.hid each
  have HL := Lib.hid hlen
  clear hl hl2 each hlen
  go_enter Tryz.func43, Tryz.ntmps43
  go_wp2_with fail
  go_loopw [17] (fun i wr => ∃ j : Nat, j ≤ l.length ∧ i = .int .i64 j ∧ Below w.heap.size w wr ∧ ∀ (i : Nat) (h : i < l.length) (h2 : i < l2.length), i < j → sameP l[i] l2[i] = true) (fun i _ => l.length - (intOf i).toNat)
  case atStart => exact ⟨0, Nat.zero_le _, rfl, Below.refl _ _, fun _ _ _ h => absurd h (by omega)⟩
  case round =>
    obtain ⟨j, hj, rfl, hb, hall⟩ := hrel
    have HA := Lib.hid hall
    clear hall
    by_cases hlt : j < l.length
    · have hlt2 : j < l2.length := by have := HL.out; omega
      obtain ⟨k, b, n, t, x, q, p, cp, o1⟩ := ((Holds.at_ l off HH.out j hlt).below _ hb).opens
      obtain ⟨k2, b2, n2, t2, x2, q2, p2, cp2, o2⟩ := ((Holds.at_ l2 off2 HH2.out j hlt2).below _ hb).opens
      obtain ⟨c1, hc1⟩ : ∃ c1, c1 = Obj.cells #[.int .i64 k, .bool b, .int .i64 n, .string t, .string x, .slice p q.length cp] 28 := ⟨_, rfl⟩
      obtain ⟨c2, hc2⟩ : ∃ c2, c2 = Obj.cells #[.int .i64 k2, .bool b2, .int .i64 n2, .string t2, .string x2, .slice p2 q2.length cp2] 28 := ⟨_, rfl⟩
      have bb := below2 wr c1 c2
      have hc := HE.out l[j] (List.getElem_mem hlt) ((wr.alloc c1).alloc c2) k b n t x q p cp l2[j] k2 b2 n2 t2 x2 q2 p2 cp2 o1.e o2.e o1.hf.hn (Held.below q o1.hl bb) (Held.below q2 o2.hl bb)
      obtain ⟨r, hr⟩ : ∃ r, r = sameP l[j] l2[j] := ⟨_, rfl⟩
      rw [← hr] at hc
      have l0 : Six ((wr.alloc c1).alloc c2) wr.heap.size k b n t x p q.length cp := by rw [hc1]; exact (six_new _ rfl).alloc _
      have l1 : Six ((wr.alloc c1).alloc c2) (wr.heap.size + 1) k2 b2 n2 t2 x2 p2 q2.length cp2 := by rw [hc2]; exact six_new _ (by simp)
      have hs : w.heap.size ≤ wr.heap.size := hb.size
      have b0 : Below w.heap.size w ((wr.alloc c1).alloc c2) := (hb.alloc hs _).alloc (by simp; omega) _
      have z0 : w.heap.size ≤ ((wr.alloc c1).alloc c2).heap.size := b0.size
      have oo2 : Opens (wr.alloc c1) g2 (off2 + j * 6) l2[j] k2 b2 n2 t2 x2 q2 p2 cp2 := by
        have h1 := below1 wr c1
        have hg := World.block_lt_of_cell? wr _ o2.c0
        exact ⟨o2.e, (h1.cell (p := ⟨g2, off2 + j * 6, none⟩) hg).trans o2.c0, (h1.cell (p := ⟨g2, off2 + j * 6 + 1, none⟩) hg).trans o2.c1, (h1.cell (p := ⟨g2, off2 + j * 6 + 2, none⟩) hg).trans o2.c2, (h1.cell (p := ⟨g2, off2 + j * 6 + 3, none⟩) hg).trans o2.c3,
          (h1.cell (p := ⟨g2, off2 + j * 6 + 4, none⟩) hg).trans o2.c4, (h1.cell (p := ⟨g2, off2 + j * 6 + 5, none⟩) hg).trans o2.c5, o2.hf, Held.below q2 o2.hl h1⟩
      have O1 := Lib.hid o1
      have O2 := Lib.hid oo2
      have HR := Lib.hid hr
      clear o1 o2 oo2 bb hr
      subst hc1 hc2
      cases r with
      | true =>
        go_wp2_with (first
          | ((with_reducible refine wpList_loadMid6 (.tmp 20) g (off + j * 6) k b n t x (.slice p q.length cp) O1.out.c0 O1.out.c1 O1.out.c2 O1.out.c3 O1.out.c4 O1.out.c5 ?_ ?_ ?_ ?_); rfl; rfl; rfl)
          | ((with_reducible refine wpList_loadMid6 (.tmp 24) g2 (off2 + j * 6) k2 b2 n2 t2 x2 (.slice p2 q2.length cp2) O2.out.c0 O2.out.c1 O2.out.c2 O2.out.c3 O2.out.c4 O2.out.c5 ?_ ?_ ?_ ?_); rfl; rfl; rfl)
          | ((with_reducible refine wpList_load6 (.tmp 8) wr.heap.size l0 ?_ ?_ ?_ ?_); rfl; rfl; rfl)
          | ((with_reducible refine wpList_load6 (.tmp 9) (wr.heap.size + 1) l1 ?_ ?_ ?_ ?_); rfl; rfl; rfl)
          | (go_at_call 17; (with_reducible refine hc.mono ?_); rintro e w3 ⟨rfl, hb3⟩; have b3 := below_any b0 hb3 z0))
        go_roundw
        case rel =>
          refine ⟨j + 1, by omega, by go_num, b3, fun i hi hi2 hlt' => ?_⟩
          by_cases e : i = j
          · subst e; exact HR.out.symm
          · exact HA.out i hi hi2 (by omega)
        case measure => simp [intOf]; omega
      | false =>
        go_wp2_with (first
          | ((with_reducible refine wpList_loadMid6 (.tmp 20) g (off + j * 6) k b n t x (.slice p q.length cp) O1.out.c0 O1.out.c1 O1.out.c2 O1.out.c3 O1.out.c4 O1.out.c5 ?_ ?_ ?_ ?_); rfl; rfl; rfl)
          | ((with_reducible refine wpList_loadMid6 (.tmp 24) g2 (off2 + j * 6) k2 b2 n2 t2 x2 (.slice p2 q2.length cp2) O2.out.c0 O2.out.c1 O2.out.c2 O2.out.c3 O2.out.c4 O2.out.c5 ?_ ?_ ?_ ?_); rfl; rfl; rfl)
          | ((with_reducible refine wpList_load6 (.tmp 8) wr.heap.size l0 ?_ ?_ ?_ ?_); rfl; rfl; rfl)
          | ((with_reducible refine wpList_load6 (.tmp 9) (wr.heap.size + 1) l1 ?_ ?_ ?_ ?_); rfl; rfl; rfl)
          | (go_at_call 17; (with_reducible refine hc.mono ?_); rintro e w3 ⟨rfl, hb3⟩; have b3 := below_any b0 hb3 z0))
        go_ret
        exact ⟨by rw [eachSame_no l l2 j hlt hlt2 HR.out.symm]; rfl, b3⟩
    · go_wp2_with fail
      go_ret
      exact ⟨by rw [eachSame_yes l l2 fun i h h2 => HA.out i h h2 (by omega)]; rfl, hb⟩

theorem eqFuncAt (l l2 : List Val) (p p2 : Option Addr) (cap cap2 : Nat) (w : World) (hl : Held w (.slice p l.length cap) l) (hl2 : Held w (.slice p2 l2.length cap2) l2) (hn : l.length ≤ 2097152) (each : ∀ v ∈ l, SameAt v) :
    Calls Tryz.prog 43 #[.slice p l.length cap, .slice p2 l2.length cap2, .func (.func 17) #[] #[]] w fun e w' => e = .returned (.bool ((l.length == l2.length) && eachSame l l2)) ∧ Below w.heap.size w w' := by
  by_cases h : l.length = l2.length
  · rw [show (l.length == l2.length) = true by simpa using h, Bool.true_and, ← h]
    cases l with
    | nil =>
      unfold eachSame
      exact eqFuncNone _ _ _ _ _
    | cons v r =>
      cases l2 with
      | nil => simp at h
      | cons v2 r2 =>
        obtain ⟨g, off, rfl, hh⟩ := hl.form
        obtain ⟨g2, off2, rfl, hh2⟩ := hl2.form
        exact eqFuncSome (v :: r) (v2 :: r2) g off cap g2 off2 cap2 w hh hh2 h.symm hn each
  · rw [show (l.length == l2.length) = false by simpa using h, Bool.false_and]
    exact eqFuncLen p p2 _ _ cap cap2 w h
end Go.Proofs.YtoifjjgakblhhaaGreatDoor

/- Same, for values in one another. -/
namespace Go.Proofs.YtoifjjgakblhhaaGreatDoor
open Go.RowKit

set_option maxHeartbeats 1600000 in
theorem same_step (v : Val) (k : Int) (b : Bool) (n : Int) (t x : ByteArray) (q : List Val) (ev : v = .mk k b n t x q) (each : ∀ u ∈ q, SameAt u) : SameAt v := by
  subst ev
  intro W k1 b1 n1 t1 x1 q1 p cap v2 k2 b2 n2 t2 x2 q2 p2 cap2 e1 e2 hn hl hl2
  cases e1
  subst e2
  unfold sameP
  obtain ⟨c1, hc1⟩ : ∃ c1, c1 = Obj.cells #[.int .i64 k, .bool b, .int .i64 n, .string t, .string x, .slice p q.length cap] 28 := ⟨_, rfl⟩
  obtain ⟨c2, hc2⟩ : ∃ c2, c2 = Obj.cells #[.int .i64 k2, .bool b2, .int .i64 n2, .string t2, .string x2, .slice p2 q2.length cap2] 28 := ⟨_, rfl⟩
  have b0 := below2 W c1 c2
  have hc := eqFuncAt q q2 p p2 cap cap2 ((W.alloc c1).alloc c2) (Held.below q hl b0) (Held.below q2 hl2 b0) hn each
  have l0 : Six ((W.alloc c1).alloc c2) W.heap.size k b n t x p q.length cap := by rw [hc1]; exact (six_new _ rfl).alloc _
  have l1 : Six ((W.alloc c1).alloc c2) (W.heap.size + 1) k2 b2 n2 t2 x2 p2 q2.length cap2 := by rw [hc2]; exact six_new _ (by simp)
  have z0 := b0.size
  have f0 := l0.c0
  have f1 := l0.c1
  have f2 := l0.c2
  have f3 := l0.c3
  have f4 := l0.c4
  have f5 := l0.c5
  have g0 := l1.c0
  have g1 := l1.c1
  have g2 := l1.c2
  have g3 := l1.c3
  have g4 := l1.c4
  have g5 := l1.c5
  clear l0 l1 hl hl2 each hn
  subst hc1 hc2
  cases a0 : (k == k2) with
  | false =>
    rw [Bool.false_and]
    go_enter Tryz.func17, Tryz.ntmps17
    go_wp2_with fail
    go_ret
    exact ⟨rfl, b0⟩
  | true =>
    rw [Bool.true_and]
    cases a1 : (b == b2) with
    | false =>
      rw [Bool.false_and]
      go_enter Tryz.func17, Tryz.ntmps17
      go_wp2_with fail
      go_ret
      exact ⟨rfl, b0⟩
    | true =>
      rw [Bool.true_and]
      cases a2 : (n == n2) with
      | false =>
        rw [Bool.false_and]
        go_enter Tryz.func17, Tryz.ntmps17
        go_wp2_with fail
        go_ret
        exact ⟨rfl, b0⟩
      | true =>
        rw [Bool.true_and]
        cases a3 : (t.toList == t2.toList) with
        | false =>
          rw [Bool.false_and]
          go_enter Tryz.func17, Tryz.ntmps17
          go_wp2_with fail
          go_ret
          exact ⟨rfl, b0⟩
        | true =>
          rw [Bool.true_and]
          cases a4 : (x.toList == x2.toList) with
          | false =>
            rw [Bool.false_and]
            go_enter Tryz.func17, Tryz.ntmps17
            go_wp2_with fail
            go_ret
            exact ⟨rfl, b0⟩
          | true =>
            rw [Bool.true_and]
            generalize (q.length == q2.length && eachSame q q2) = r at hc ⊢
            go_enter Tryz.func17, Tryz.ntmps17
            go_wp2_with (go_at_call 43; (with_reducible refine hc.mono ?_); rintro e w3 ⟨rfl, hb3⟩; replace b0 := below_any b0 hb3 z0)
            go_ret
            exact ⟨rfl, b0⟩

mutual
theorem sameAll : (v : Val) → SameAt v
  | .mk k b n t x q => same_step _ k b n t x q rfl (sameEach q)
theorem sameEach : (q : List Val) → ∀ u ∈ q, SameAt u
  | [], _, h => absurd h (by simp)
  | v :: r, u, h => by
    rcases List.mem_cons.1 h with h | h
    · rw [h]; exact sameAll v
    · exact sameEach r u h
end
end Go.Proofs.YtoifjjgakblhhaaGreatDoor

/- minus. -/
namespace Go.Proofs.YtoifjjgakblhhaaGreatDoor
open Go.RowKit

theorem yieldsIf_loadN {ops : Array Oper} {S : World → Prop} {op : Oper} {a : Act} (hw : Region.wanted op (yielded ops a.tmps) = true) (x : Operand) (ho : op.op = .load 136 x)
    (g : Nat) (hx : a.eval x = .pointer (some ⟨g, 0, none⟩)) (c : Array Value) (n : Bool) (f : Nat → Nat) (hS : ∀ w, S w → Lies w g c n f) : YieldsIf Tryz.prog ops S op (.agg c) a :=
  .inl ⟨hw, fun w hw' => by
    unfold execOp
    simp only [ho, hx, Instr.loadAt, Instr.sureAddr, Sem.run_bind, Sem.run_pure, Result.andThen_ok, run_loadVar_row (P := Tryz.prog) w g 136 136 c (0, 0) _ (hS w hw').1 Tryz.underlying136 rfl (by rw [(hS w hw').2.size]; exact info59)]⟩
theorem storeN {w : World} {g : Nat} {c c' : Array Value} {n n' : Bool} {f f' : Nat → Nat} (h : Lies w g c n f) (k : IsNum c' n' f') : (Instr.storeAt 136 (.pointer (some ⟨g, 0, none⟩)) (.agg c')).run Tryz.prog w = .ok () (w.setRow g c') := by
  simp only [Instr.storeAt, Instr.sureAddr, Sem.run_bind, Sem.run_pure, Result.andThen_ok]
  exact run_storeVar_row (P := Tryz.prog) w g 136 136 c c' h.1 (by rw [k.size]; exact info59) (by rw [h.2.size, k.size]) k.one

theorem wp_storeN {op : Oper} {a : Act} {w : World} {K : Act → World → Prop} {Q : Exit → Act → World → Prop} (x y : Operand) (ho : op.op = .store 136 x y) (g : Nat) {c c' : Array Value} {n n' : Bool} {f f' : Nat → Nat}
    (hx : a.eval x = .pointer (some ⟨g, 0, none⟩)) (hy : a.eval y = .agg c') (hl : Lies w g c n f) (hn : IsNum c' n' f') (h : ∀ w', Only g w w' → Lies w' g c' n' f' → K (a.put op.dst undef) w') : op.wp Tryz.prog a w K Q := by
  unfold Oper.wp execOp
  simp only [ho, hx, hy, storeN hl hn, Sem.run_bind, Sem.run_pure, Result.andThen_ok]
  exact h _ (Only.setRow w c') ⟨heap_setRow hl.1, hn⟩

set_option maxRecDepth 20000 in
set_option maxHeartbeats 1600000 in
theorem minusNum (c d : Array Value) (n m : Bool) (f g : Nat → Nat) (w : World) (hc : IsNum c n f) (hd : IsNum d m g) (hs : wval f + wval g < BASE ^ 16) :
    Calls Tryz.prog 161 #[.agg c, .agg d] w fun e w' => ∃ c' r h, e = .returned (.agg c') ∧ IsNum c' r h ∧ sv r (wval h) = sv n (wval f) + sv (!m) (wval g) ∧ Below w.heap.size w w' := by
  have l1 : Lies (((w.alloc (.cells c 136)).alloc (.cells d 136)).alloc (.cells #[.bool false, .int .u32 0, .int .u32 0, .int .u32 0, .int .u32 0, .int .u32 0, .int .u32 0, .int .u32 0, .int .u32 0, .int .u32 0, .int .u32 0, .int .u32 0, .int .u32 0, .int .u32 0, .int .u32 0, .int .u32 0, .int .u32 0] 136)) w.heap.size c n f := ((lies_new w hc rfl).alloc _).alloc _
  have l2 : Lies (((w.alloc (.cells c 136)).alloc (.cells d 136)).alloc (.cells #[.bool false, .int .u32 0, .int .u32 0, .int .u32 0, .int .u32 0, .int .u32 0, .int .u32 0, .int .u32 0, .int .u32 0, .int .u32 0, .int .u32 0, .int .u32 0, .int .u32 0, .int .u32 0, .int .u32 0, .int .u32 0, .int .u32 0] 136)) (w.heap.size + 1) d m g := (lies_new _ hd (by simp)).alloc _
  have l3 : Lies (((w.alloc (.cells c 136)).alloc (.cells d 136)).alloc (.cells #[.bool false, .int .u32 0, .int .u32 0, .int .u32 0, .int .u32 0, .int .u32 0, .int .u32 0, .int .u32 0, .int .u32 0, .int .u32 0, .int .u32 0, .int .u32 0, .int .u32 0, .int .u32 0, .int .u32 0, .int .u32 0, .int .u32 0] 136)) (w.heap.size + 1 + 1) zero59 false (fun _ => 0) := lies_zero _ (by simp)
  have hb := below3 w (.cells c 136) (.cells d 136) (.cells #[.bool false, .int .u32 0, .int .u32 0, .int .u32 0, .int .u32 0, .int .u32 0, .int .u32 0, .int .u32 0, .int .u32 0, .int .u32 0, .int .u32 0, .int .u32 0, .int .u32 0, .int .u32 0, .int .u32 0, .int .u32 0, .int .u32 0] 136)
  go_enter Tryz.func161, Tryz.ntmps161
  go_wp2_with fail
  refine wp_region_held_drew (S := fun w' => Lies w' w.heap.size c n f ∧ Lies w' (w.heap.size + 1) d m g ∧ (∃ c0 n0 f0, Lies w' (w.heap.size + 1 + 1) c0 n0 f0) ∧ Below w.heap.size w w') (by kernel_rfl) ⟨l1, l2, ⟨_, _, _, l3⟩, hb.drew⟩ (fun hHeld => ?_)
  clear l1 l2 l3 hb
  refine wpAnyH_take (i := 0) rfl (by kernel_rfl) (by kernel_rfl) (by kernel_rfl) (fun _ _ _ h => h) (yieldsIf_loadN (by rfl) (.tmp 2) rfl w.heap.size rfl c n f (fun _ h => h.1)) hHeld ?_
  try simp only [Act.put, List.setIfInBounds_toArray, List.set_cons_zero, List.set_cons_succ]
  refine wpAnyH_take (i := 1) rfl (by kernel_rfl) (by kernel_rfl) (by kernel_rfl) (fun _ _ _ h => h) (yieldsIf_loadN (by rfl) (.tmp 3) rfl (w.heap.size + 1) rfl d m g (fun _ h => h.2.1)) hHeld ?_
  try simp only [Act.put, List.setIfInBounds_toArray, List.set_cons_zero, List.set_cons_succ]
  refine wpAnyH_ready (rs := [2]) (by kernel_rfl) (by simp) ?_
  refine AllReadyH.cons rfl (fun K hK => ?_) AllReadyH.nil
  go_simp
  refine (opp d m g _ hd).mono ?_
  rintro e w1 ⟨d', rfl, hd', hb1⟩
  obtain ⟨u1, u2, ⟨cz, nz, fz, u3⟩, u4⟩ := hHeld
  refine hK.out _ _ ⟨u1.below hb1, u2.below hb1, ⟨_, _, _, u3.below hb1⟩, below_any u4 hb1 (Nat.le_of_lt u1.lt)⟩ (fun hHeld => ?_)
  clear hK K u1 u2 u3 u4 hb1
  try simp only [Act.put, List.setIfInBounds_toArray, List.set_cons_zero, List.set_cons_succ]
  refine wpAnyH_ready (rs := [3]) (by kernel_rfl) (by simp) ?_
  refine AllReadyH.cons rfl (fun K hK => ?_) AllReadyH.nil
  go_simp
  refine (plusNum c d' n (!m) f g _ hc hd' hs).mono ?_
  rintro e w2 ⟨c', r, h, rfl, hn, hsv, hb1⟩
  obtain ⟨u1, u2, ⟨cz, nz, fz, u3⟩, u4⟩ := hHeld
  refine hK.out _ _ ⟨u1.below hb1, u2.below hb1, ⟨_, _, _, u3.below hb1⟩, below_any u4 hb1 (Nat.le_of_lt u1.lt)⟩ (fun hHeld => ?_)
  clear hK K u1 u2 u3 u4 hb1
  try simp only [Act.put, List.setIfInBounds_toArray, List.set_cons_zero, List.set_cons_succ]
  obtain ⟨u1, u2, ⟨cz, nz, fz, u3⟩, u4⟩ := hHeld
  refine wpAnyH_ready (rs := [4]) (by kernel_rfl) (by simp) ?_
  refine AllReadyH.cons rfl (fun K hK => ?_) AllReadyH.nil
  rw [if_pos (by rfl)]
  refine wp_storeN (.tmp 4) (.tmp 8) rfl (w.heap.size + 1 + 1) rfl rfl u3 hn (fun w3 ho m3 => ?_)
  refine hK.out _ _ ⟨u1.only ho (by omega), u2.only ho (by omega), ⟨_, _, _, m3⟩, below_only u4 ho (by omega) (Nat.le_of_lt u1.lt)⟩ (fun hHeld => ?_)
  have b3 := hHeld.2.2.2
  clear hK K u1 u2 u3 u4 hHeld
  refine wpAnyH_done (by kernel_rfl) ?_ _
  go_wp2_with fail
  exact bodyPost_ret (v := .agg c') (results_num (p := 4) Tryz.results161 _ rfl m3) rfl ⟨c', r, h, rfl, hn, hsv, b3⟩

end Go.Proofs.YtoifjjgakblhhaaGreatDoor

/- parseBoth. -/
namespace Go.Proofs.YtoifjjgakblhhaaGreatDoor
open Go.RowKit

theorem parseDec (s : ByteArray) (w : World) (hG : Gd w) (hs : s.size < 4294967281) (h : chk s.data.toList = true) :
    Calls Tryz.prog 151 #[.string s] w fun e w' => ∃ c f, e = .returned (.tuple #[.agg c, .bool true]) ∧ IsNum c (dsign s.data.toList) f ∧ wval f = damt s.data.toList ∧ Below w.heap.size w w' := by
  obtain ⟨n, a, b, hsp, ha, hb, la, lb, _, _⟩ := chk_parts _ h
  have e1 : dsign s.data.toList = n := by unfold dsign; rw [hsp]; rfl
  have e2 : damt s.data.toList = num54 a b := by unfold damt; rw [hsp]; rfl
  rw [e1, e2]
  exact parseYes s (bs a) (bs b) n w hG hs h hsp ha hb (by simpa [ByteArray.size] using la) (by simpa [ByteArray.size] using lb)

set_option maxRecDepth 20000 in
set_option maxHeartbeats 1600000 in
theorem bothYes (s t : ByteArray) (w : World) (hG : Gd w) (hs : s.size < 4294967281) (ht : t.size < 4294967281) (h : chk s.data.toList = true) (h2 : chk t.data.toList = true) :
    Calls Tryz.prog 128 #[.string s, .string t] w fun e w' => ∃ c d f g, e = .returned (.tuple #[.agg c, .agg d, .bool true]) ∧ IsNum c (dsign s.data.toList) f ∧ wval f = damt s.data.toList ∧
      IsNum d (dsign t.data.toList) g ∧ wval g = damt t.data.toList ∧ Below w.heap.size w w' := by
  have hc : ∀ W, Gd W → Calls Tryz.prog 151 #[.string s] W fun e w' => ∃ c f, e = .returned (.tuple #[.agg c, .bool true]) ∧ IsNum c (dsign s.data.toList) f ∧ wval f = damt s.data.toList ∧ Below W.heap.size W w' := fun W hW => parseDec s W hW hs h
  have hc2 : ∀ W, Gd W → Calls Tryz.prog 151 #[.string t] W fun e w' => ∃ c f, e = .returned (.tuple #[.agg c, .bool true]) ∧ IsNum c (dsign t.data.toList) f ∧ wval f = damt t.data.toList ∧ Below W.heap.size W w' := fun W hW => parseDec t W hW ht h2
  have HC := Lib.hid hc
  have HC2 := Lib.hid hc2
  generalize dsign s.data.toList = sn at *
  generalize damt s.data.toList = sx at *
  generalize dsign t.data.toList = tn at *
  generalize damt t.data.toList = tx at *
  clear hc hc2 h h2 hs ht
  have l1 : Lies ((w.alloc (.cells #[.bool false, .int .u32 0, .int .u32 0, .int .u32 0, .int .u32 0, .int .u32 0, .int .u32 0, .int .u32 0, .int .u32 0, .int .u32 0, .int .u32 0, .int .u32 0, .int .u32 0, .int .u32 0, .int .u32 0, .int .u32 0, .int .u32 0] 136)).alloc (.cells #[.bool false, .int .u32 0, .int .u32 0, .int .u32 0, .int .u32 0, .int .u32 0, .int .u32 0, .int .u32 0, .int .u32 0, .int .u32 0, .int .u32 0, .int .u32 0, .int .u32 0, .int .u32 0, .int .u32 0, .int .u32 0, .int .u32 0] 136)) w.heap.size zero59 false (fun _ => 0) := (lies_zero _ rfl).alloc _
  have l2 : Lies ((w.alloc (.cells #[.bool false, .int .u32 0, .int .u32 0, .int .u32 0, .int .u32 0, .int .u32 0, .int .u32 0, .int .u32 0, .int .u32 0, .int .u32 0, .int .u32 0, .int .u32 0, .int .u32 0, .int .u32 0, .int .u32 0, .int .u32 0, .int .u32 0] 136)).alloc (.cells #[.bool false, .int .u32 0, .int .u32 0, .int .u32 0, .int .u32 0, .int .u32 0, .int .u32 0, .int .u32 0, .int .u32 0, .int .u32 0, .int .u32 0, .int .u32 0, .int .u32 0, .int .u32 0, .int .u32 0, .int .u32 0, .int .u32 0] 136)) (w.heap.size + 1) zero59 false (fun _ => 0) := lies_zero _ (by simp)
  have g0 := (hG.alloc (.cells #[.bool false, .int .u32 0, .int .u32 0, .int .u32 0, .int .u32 0, .int .u32 0, .int .u32 0, .int .u32 0, .int .u32 0, .int .u32 0, .int .u32 0, .int .u32 0, .int .u32 0, .int .u32 0, .int .u32 0, .int .u32 0, .int .u32 0] 136)).alloc (.cells #[.bool false, .int .u32 0, .int .u32 0, .int .u32 0, .int .u32 0, .int .u32 0, .int .u32 0, .int .u32 0, .int .u32 0, .int .u32 0, .int .u32 0, .int .u32 0, .int .u32 0, .int .u32 0, .int .u32 0, .int .u32 0, .int .u32 0] 136)
  have hb0 := ((Below.refl w.heap.size w).alloc (Nat.le_refl _) (.cells #[.bool false, .int .u32 0, .int .u32 0, .int .u32 0, .int .u32 0, .int .u32 0, .int .u32 0, .int .u32 0, .int .u32 0, .int .u32 0, .int .u32 0, .int .u32 0, .int .u32 0, .int .u32 0, .int .u32 0, .int .u32 0, .int .u32 0] 136)).alloc (by simp) (.cells #[.bool false, .int .u32 0, .int .u32 0, .int .u32 0, .int .u32 0, .int .u32 0, .int .u32 0, .int .u32 0, .int .u32 0, .int .u32 0, .int .u32 0, .int .u32 0, .int .u32 0, .int .u32 0, .int .u32 0, .int .u32 0, .int .u32 0] 136)
  go_enter Tryz.func128, Tryz.ntmps128
  go_wp2_with (first
    | (go_at_call 151; (with_reducible refine (HC.out _ g0).mono ?_); rintro e w1 ⟨c, f, rfl, hn, hv, hb⟩; have HV := Lib.hid hv; clear hv; have q1 := l1.below hb; have q2 := l2.below hb; have g1 := g0.below hb; have hb1 := below_any hb0 hb (Nat.le_of_lt l1.lt))
    | ((with_reducible refine wpList_storeN (.tmp 4) (.tmp 10) w.heap.size (by assumption) hn ?_ ?_ ?_ ?_ ?_); rfl; rfl; rfl; rfl; intro w2 ho p1; have p2 := q2.only ho (by omega); have hb2 := below_only hb1 ho (Nat.le_refl _) (Nat.le_of_lt q1.lt); have g2 : Gd w2 := hG.below hb2)
    | (go_at_call 151; (with_reducible refine (HC2.out _ g2).mono ?_); rintro e w3 ⟨d, g, rfl, hnd, hvd, hb⟩; have HVD := Lib.hid hvd; clear hvd; have r1 := p1.below hb; have r2 := p2.below hb; have hb3 := below_any hb2 hb (Nat.le_of_lt p1.lt))
    | ((with_reducible refine wpList_storeN (.tmp 5) (.tmp 19) (w.heap.size + 1) (by assumption) hnd ?_ ?_ ?_ ?_ ?_); rfl; rfl; rfl; rfl; intro w4 ho4 m2; have m1 := r1.only ho4 (by omega); have hb4 := below_only hb3 ho4 (by omega) (Nat.le_of_lt r1.lt)))
  refine wp_region_held_drew (S := fun w' => Lies w' w.heap.size c sn f ∧ Lies w' (w.heap.size + 1) d tn g ∧ Below w.heap.size w w') (by kernel_rfl) ⟨m1, m2, hb4.drew⟩ (fun hHeld => ?_)
  refine wpAnyH_take (i := 0) rfl (by kernel_rfl) (by kernel_rfl) (by kernel_rfl) (fun _ _ _ h => h) (yieldsIf_loadN (by rfl) (.tmp 4) rfl w.heap.size rfl c sn f (fun _ h => h.1)) hHeld ?_
  try simp only [Act.put, List.setIfInBounds_toArray, List.set_cons_zero, List.set_cons_succ]
  refine wpAnyH_take (i := 1) rfl (by kernel_rfl) (by kernel_rfl) (by kernel_rfl) (fun _ _ _ h => h) (yieldsIf_loadN (by rfl) (.tmp 5) rfl (w.heap.size + 1) rfl d tn g (fun _ h => h.2.1)) hHeld ?_
  try simp only [Act.put, List.setIfInBounds_toArray, List.set_cons_zero, List.set_cons_succ]
  obtain ⟨u1, u2, u3⟩ := hHeld
  refine wpAnyH_ready (rs := [2]) (by kernel_rfl) (by simp) ?_
  refine AllReadyH.cons rfl (fun K hK => ?_) AllReadyH.nil
  rw [if_pos (by rfl)]
  refine wp_storeN (.tmp 4) (.tmp 25) rfl w.heap.size rfl rfl u1 hn (fun w5 ho5 x1 => ?_)
  refine hK.out _ _ ⟨x1, u2.only ho5 (by omega), below_only u3 ho5 (Nat.le_refl _) (Nat.le_of_lt u1.lt)⟩ (fun hHeld => ?_)
  clear hK K u1 u2 u3 x1 ho5
  try simp only [Act.put, List.setIfInBounds_toArray, List.set_cons_zero, List.set_cons_succ]
  obtain ⟨u1, u2, u3⟩ := hHeld
  refine wpAnyH_ready (rs := [3]) (by kernel_rfl) (by simp) ?_
  refine AllReadyH.cons rfl (fun K hK => ?_) AllReadyH.nil
  rw [if_pos (by rfl)]
  refine wp_storeN (.tmp 5) (.tmp 26) rfl (w.heap.size + 1) rfl rfl u2 hnd (fun w6 ho6 x2 => ?_)
  refine hK.out _ _ ⟨u1.only ho6 (by omega), x2, below_only u3 ho6 (by omega) (Nat.le_of_lt u1.lt)⟩ (fun hHeld => ?_)
  clear hK K u1 u2 u3 x2 ho6
  try simp only [Act.put, List.setIfInBounds_toArray, List.set_cons_zero, List.set_cons_succ]
  obtain ⟨u1, u2, u3⟩ := hHeld
  refine wpAnyH_ready (rs := [4]) (by kernel_rfl) (by simp) ?_
  refine AllReadyH.cons rfl (fun K hK => ?_) AllReadyH.nil
  go_simp
  refine hK.out _ _ ⟨u1, u2, u3⟩ (fun hHeld => ?_)
  clear hK K hHeld
  try simp only [Act.put, List.setIfInBounds_toArray, List.set_cons_zero, List.set_cons_succ]
  refine wpAnyH_done (by kernel_rfl) ?_ _
  go_wp2_with fail
  exact bodyPost_ret (v := .tuple #[.agg c, .agg d, .bool true]) (results_num2_tmp (p := 4) (p2 := 5) (q := 6) Tryz.results128 _ (.bool true) rfl rfl rfl u1 u2) rfl ⟨c, d, f, g, rfl, hn, HV.out, hnd, HVD.out, u3⟩

end Go.Proofs.YtoifjjgakblhhaaGreatDoor

/- reckon, Add, Sub. -/
namespace Go.Proofs.YtoifjjgakblhhaaGreatDoor
open Go.RowKit

theorem textNum (c : Array Value) (n : Bool) (f : Nat → Nat) (z : Int) (w : World) (hc : IsNum c n f) (hz : sv n (wval f) = z) (t : ByteArray) (k : Int) (hv : said (txt z) = .tuple #[.string t, .int .i64 k]) :
    Calls Tryz.prog 180 #[.agg c] w fun e w' => e = .returned (.tuple #[.string t, .int .i64 k]) ∧ Below w.heap.size w w' := by
  have := textAt c n f w hc
  rwa [wrN_sv, hz, hv] at this

theorem damt_sum {s t : List UInt8} (h : chk s = true) (h2 : chk t = true) : damt s + damt t < BASE ^ 16 := by
  have a := (chk_dec s h).2.1
  have b := (chk_dec t h2).2.1
  have e : BASE ^ 16 = 10 ^ 144 := base_pow 16
  rw [e]
  have : (10 : Nat) ^ 94 + 10 ^ 94 ≤ 10 ^ 144 := by decide
  omega

set_option maxRecDepth 20000 in
set_option maxHeartbeats 1600000 in
theorem reckonPlus (s t : ByteArray) (w : World) (hG : Gd w) (hs : s.size < 4294967281) (ht : t.size < 4294967281) (h : chk s.data.toList = true) (h2 : chk t.data.toList = true) (x : ByteArray) (k : Int)
    (hv : said (txt (dval s.data.toList + dval t.data.toList)) = .tuple #[.string x, .int .i64 k]) :
    Calls Tryz.prog 159 #[.string s, .string t, .func (Fn.func 160) #[] #[]] w fun e w' => e = .returned (.tuple #[.string x, .int .i64 k]) ∧ Below w.heap.size w w' := by
  have hc : ∀ W, Gd W → Calls Tryz.prog 128 #[.string s, .string t] W fun e w' => ∃ c d f g, e = .returned (.tuple #[.agg c, .agg d, .bool true]) ∧ IsNum c (dsign s.data.toList) f ∧ wval f = damt s.data.toList ∧
      IsNum d (dsign t.data.toList) g ∧ wval g = damt t.data.toList ∧ Below W.heap.size W w' := fun W hW => bothYes s t W hW hs ht h h2
  have HC := Lib.hid hc
  have hop : ∀ (c d : Array Value) (f g : Nat → Nat) W, IsNum c (dsign s.data.toList) f → wval f = damt s.data.toList → IsNum d (dsign t.data.toList) g → wval g = damt t.data.toList →
      Calls Tryz.prog 160 #[.agg c, .agg d] W fun e w' => ∃ c' r h, e = .returned (.agg c') ∧ IsNum c' r h ∧ Aside (sv r (wval h) = dval s.data.toList + dval t.data.toList) ∧ Below W.heap.size W w' := by
    intro c d f g W h1 e1 h3 e2
    refine (plusNum c d _ _ f g W h1 h3 (by rw [e1, e2]; exact damt_sum h h2)).mono ?_
    rintro e w' ⟨c', r, k, rfl, hr, hsv, hb⟩
    exact ⟨c', r, k, rfl, hr, by unfold Aside; rw [hsv, e1, e2]; rfl, hb⟩
  have HOP := Lib.hid hop
  have HV := Lib.hid hv
  clear hc hop hv h h2 hs ht
  go_enter Tryz.func159, Tryz.ntmps159
  go_wp2_with (first
    | (go_at_call 128; (with_reducible refine (HC.out _ hG).mono ?_); rintro e w1 ⟨c, d, f, g, rfl, hn, hx, hm, hy, hb⟩; have HX := Lib.hid hx; have HY := Lib.hid hy; clear hx hy; have l1 : Lies ((w1.alloc (.cells #[.bool false, .int .u32 0, .int .u32 0, .int .u32 0, .int .u32 0, .int .u32 0, .int .u32 0, .int .u32 0, .int .u32 0, .int .u32 0, .int .u32 0, .int .u32 0, .int .u32 0, .int .u32 0, .int .u32 0, .int .u32 0, .int .u32 0] 136)).alloc (.cells #[.bool false, .int .u32 0, .int .u32 0, .int .u32 0, .int .u32 0, .int .u32 0, .int .u32 0, .int .u32 0, .int .u32 0, .int .u32 0, .int .u32 0, .int .u32 0, .int .u32 0, .int .u32 0, .int .u32 0, .int .u32 0, .int .u32 0] 136)) w1.heap.size zero59 false (fun _ => 0) := (lies_zero _ rfl).alloc _; have l2 : Lies ((w1.alloc (.cells #[.bool false, .int .u32 0, .int .u32 0, .int .u32 0, .int .u32 0, .int .u32 0, .int .u32 0, .int .u32 0, .int .u32 0, .int .u32 0, .int .u32 0, .int .u32 0, .int .u32 0, .int .u32 0, .int .u32 0, .int .u32 0, .int .u32 0] 136)).alloc (.cells #[.bool false, .int .u32 0, .int .u32 0, .int .u32 0, .int .u32 0, .int .u32 0, .int .u32 0, .int .u32 0, .int .u32 0, .int .u32 0, .int .u32 0, .int .u32 0, .int .u32 0, .int .u32 0, .int .u32 0, .int .u32 0, .int .u32 0] 136)) (w1.heap.size + 1) zero59 false (fun _ => 0) := lies_zero _ (by simp); have hb1 : Below w.heap.size w ((w1.alloc (.cells #[.bool false, .int .u32 0, .int .u32 0, .int .u32 0, .int .u32 0, .int .u32 0, .int .u32 0, .int .u32 0, .int .u32 0, .int .u32 0, .int .u32 0, .int .u32 0, .int .u32 0, .int .u32 0, .int .u32 0, .int .u32 0, .int .u32 0] 136)).alloc (.cells #[.bool false, .int .u32 0, .int .u32 0, .int .u32 0, .int .u32 0, .int .u32 0, .int .u32 0, .int .u32 0, .int .u32 0, .int .u32 0, .int .u32 0, .int .u32 0, .int .u32 0, .int .u32 0, .int .u32 0, .int .u32 0, .int .u32 0] 136)) := (hb.alloc hb.size _).alloc (by have := hb.size; simp; omega) _; have hsz := hb.size)
    | ((with_reducible refine wpList_storeN (.tmp 8) (.tmp 15) w1.heap.size (by assumption) hn ?_ ?_ ?_ ?_ ?_); rfl; rfl; rfl; rfl; intro w2 ho p1; have p2 := l2.only ho (by omega); have hb2 := below_only hb1 ho hsz (Nat.le_of_lt (Nat.lt_of_le_of_lt hsz l1.lt)))
    | ((with_reducible refine wpList_storeN (.tmp 9) (.tmp 16) (w1.heap.size + 1) (by assumption) hm ?_ ?_ ?_ ?_ ?_); rfl; rfl; rfl; rfl; intro w3 ho3 q2; have q1 := p1.only ho3 (by omega); have hb3 := below_only hb2 ho3 (by omega) (Nat.le_of_lt (Nat.lt_of_le_of_lt hsz p1.lt)))
    | ((with_reducible refine wpList_loadN (.tmp 8) w1.heap.size (by assumption) ?_ ?_ ?_ ?_); rfl; rfl; rfl)
    | ((with_reducible refine wpList_loadN (.tmp 9) (w1.heap.size + 1) (by assumption) ?_ ?_ ?_ ?_); rfl; rfl; rfl)
    | (go_at_call 160; (with_reducible refine (HOP.out c d f g _ hn HX.out hm HY.out).mono ?_); rintro e w4 ⟨c', r, h, rfl, hr, hsv, hb4⟩; have hb5 := below_any hb3 hb4 (Nat.le_of_lt (Nat.lt_of_le_of_lt hsz q1.lt)))
    | (go_at_call 180; (with_reducible refine (textNum c' r h _ _ hr hsv.out x k HV.out).mono ?_); rintro e w5 ⟨rfl, hb6⟩; have hb7 := below_any hb5 hb6 hb5.size))
  go_ret2
  exact ⟨rfl, hb7⟩

set_option maxRecDepth 20000 in
set_option maxHeartbeats 1600000 in
theorem reckonMinus (s t : ByteArray) (w : World) (hG : Gd w) (hs : s.size < 4294967281) (ht : t.size < 4294967281) (h : chk s.data.toList = true) (h2 : chk t.data.toList = true) (x : ByteArray) (k : Int)
    (hv : said (txt (dval s.data.toList - dval t.data.toList)) = .tuple #[.string x, .int .i64 k]) :
    Calls Tryz.prog 159 #[.string s, .string t, .func (Fn.func 161) #[] #[]] w fun e w' => e = .returned (.tuple #[.string x, .int .i64 k]) ∧ Below w.heap.size w w' := by
  have hc : ∀ W, Gd W → Calls Tryz.prog 128 #[.string s, .string t] W fun e w' => ∃ c d f g, e = .returned (.tuple #[.agg c, .agg d, .bool true]) ∧ IsNum c (dsign s.data.toList) f ∧ wval f = damt s.data.toList ∧
      IsNum d (dsign t.data.toList) g ∧ wval g = damt t.data.toList ∧ Below W.heap.size W w' := fun W hW => bothYes s t W hW hs ht h h2
  have HC := Lib.hid hc
  have hop : ∀ (c d : Array Value) (f g : Nat → Nat) W, IsNum c (dsign s.data.toList) f → wval f = damt s.data.toList → IsNum d (dsign t.data.toList) g → wval g = damt t.data.toList →
      Calls Tryz.prog 161 #[.agg c, .agg d] W fun e w' => ∃ c' r h, e = .returned (.agg c') ∧ IsNum c' r h ∧ Aside (sv r (wval h) = dval s.data.toList - dval t.data.toList) ∧ Below W.heap.size W w' := by
    intro c d f g W h1 e1 h3 e2
    refine (minusNum c d _ _ f g W h1 h3 (by rw [e1, e2]; exact damt_sum h h2)).mono ?_
    rintro e w' ⟨c', r, k, rfl, hr, hsv, hb⟩
    refine ⟨c', r, k, rfl, hr, ?_, hb⟩
    unfold Aside
    rw [hsv, e1, e2]
    unfold dval sv
    cases dsign s.data.toList <;> cases dsign t.data.toList <;> simp <;> omega
  have HOP := Lib.hid hop
  have HV := Lib.hid hv
  clear hc hop hv h h2 hs ht
  go_enter Tryz.func159, Tryz.ntmps159
  go_wp2_with (first
    | (go_at_call 128; (with_reducible refine (HC.out _ hG).mono ?_); rintro e w1 ⟨c, d, f, g, rfl, hn, hx, hm, hy, hb⟩; have HX := Lib.hid hx; have HY := Lib.hid hy; clear hx hy; have l1 : Lies ((w1.alloc (.cells #[.bool false, .int .u32 0, .int .u32 0, .int .u32 0, .int .u32 0, .int .u32 0, .int .u32 0, .int .u32 0, .int .u32 0, .int .u32 0, .int .u32 0, .int .u32 0, .int .u32 0, .int .u32 0, .int .u32 0, .int .u32 0, .int .u32 0] 136)).alloc (.cells #[.bool false, .int .u32 0, .int .u32 0, .int .u32 0, .int .u32 0, .int .u32 0, .int .u32 0, .int .u32 0, .int .u32 0, .int .u32 0, .int .u32 0, .int .u32 0, .int .u32 0, .int .u32 0, .int .u32 0, .int .u32 0, .int .u32 0] 136)) w1.heap.size zero59 false (fun _ => 0) := (lies_zero _ rfl).alloc _; have l2 : Lies ((w1.alloc (.cells #[.bool false, .int .u32 0, .int .u32 0, .int .u32 0, .int .u32 0, .int .u32 0, .int .u32 0, .int .u32 0, .int .u32 0, .int .u32 0, .int .u32 0, .int .u32 0, .int .u32 0, .int .u32 0, .int .u32 0, .int .u32 0, .int .u32 0] 136)).alloc (.cells #[.bool false, .int .u32 0, .int .u32 0, .int .u32 0, .int .u32 0, .int .u32 0, .int .u32 0, .int .u32 0, .int .u32 0, .int .u32 0, .int .u32 0, .int .u32 0, .int .u32 0, .int .u32 0, .int .u32 0, .int .u32 0, .int .u32 0] 136)) (w1.heap.size + 1) zero59 false (fun _ => 0) := lies_zero _ (by simp); have hb1 : Below w.heap.size w ((w1.alloc (.cells #[.bool false, .int .u32 0, .int .u32 0, .int .u32 0, .int .u32 0, .int .u32 0, .int .u32 0, .int .u32 0, .int .u32 0, .int .u32 0, .int .u32 0, .int .u32 0, .int .u32 0, .int .u32 0, .int .u32 0, .int .u32 0, .int .u32 0] 136)).alloc (.cells #[.bool false, .int .u32 0, .int .u32 0, .int .u32 0, .int .u32 0, .int .u32 0, .int .u32 0, .int .u32 0, .int .u32 0, .int .u32 0, .int .u32 0, .int .u32 0, .int .u32 0, .int .u32 0, .int .u32 0, .int .u32 0, .int .u32 0] 136)) := (hb.alloc hb.size _).alloc (by have := hb.size; simp; omega) _; have hsz := hb.size)
    | ((with_reducible refine wpList_storeN (.tmp 8) (.tmp 15) w1.heap.size (by assumption) hn ?_ ?_ ?_ ?_ ?_); rfl; rfl; rfl; rfl; intro w2 ho p1; have p2 := l2.only ho (by omega); have hb2 := below_only hb1 ho hsz (Nat.le_of_lt (Nat.lt_of_le_of_lt hsz l1.lt)))
    | ((with_reducible refine wpList_storeN (.tmp 9) (.tmp 16) (w1.heap.size + 1) (by assumption) hm ?_ ?_ ?_ ?_ ?_); rfl; rfl; rfl; rfl; intro w3 ho3 q2; have q1 := p1.only ho3 (by omega); have hb3 := below_only hb2 ho3 (by omega) (Nat.le_of_lt (Nat.lt_of_le_of_lt hsz p1.lt)))
    | ((with_reducible refine wpList_loadN (.tmp 8) w1.heap.size (by assumption) ?_ ?_ ?_ ?_); rfl; rfl; rfl)
    | ((with_reducible refine wpList_loadN (.tmp 9) (w1.heap.size + 1) (by assumption) ?_ ?_ ?_ ?_); rfl; rfl; rfl)
    | (go_at_call 161; (with_reducible refine (HOP.out c d f g _ hn HX.out hm HY.out).mono ?_); rintro e w4 ⟨c', r, h, rfl, hr, hsv, hb4⟩; have hb5 := below_any hb3 hb4 (Nat.le_of_lt (Nat.lt_of_le_of_lt hsz q1.lt)))
    | (go_at_call 180; (with_reducible refine (textNum c' r h _ _ hr hsv.out x k HV.out).mono ?_); rintro e w5 ⟨rfl, hb6⟩; have hb7 := below_any hb5 hb6 hb5.size))
  go_ret2
  exact ⟨rfl, hb7⟩

set_option maxHeartbeats 800000 in
theorem addYes (s t : ByteArray) (w : World) (hG : Gd w) (hs : s.size < 4294967281) (ht : t.size < 4294967281) (h : chk s.data.toList = true) (h2 : chk t.data.toList = true) (x : ByteArray) (k : Int)
    (hv : said (txt (dval s.data.toList + dval t.data.toList)) = .tuple #[.string x, .int .i64 k]) :
    Calls Tryz.prog 138 #[.string s, .string t] w fun e w' => e = .returned (.tuple #[.string x, .int .i64 k]) ∧ Below w.heap.size w w' := by
  have hc : ∀ W, Gd W → Calls Tryz.prog 159 #[.string s, .string t, .func (Fn.func 160) #[] #[]] W fun e w' => e = .returned (.tuple #[.string x, .int .i64 k]) ∧ Below W.heap.size W w' := fun W hW => reckonPlus s t W hW hs ht h h2 x k hv
  have HC := Lib.hid hc
  clear hc hv h h2 hs ht
  go_enter Tryz.func138, Tryz.ntmps138
  go_wp2_with (go_at_call 159; (with_reducible refine (HC.out _ hG).mono ?_); rintro e w1 ⟨rfl, hb⟩)
  go_ret2
  exact ⟨rfl, hb⟩
set_option maxHeartbeats 800000 in
theorem subYes (s t : ByteArray) (w : World) (hG : Gd w) (hs : s.size < 4294967281) (ht : t.size < 4294967281) (h : chk s.data.toList = true) (h2 : chk t.data.toList = true) (x : ByteArray) (k : Int)
    (hv : said (txt (dval s.data.toList - dval t.data.toList)) = .tuple #[.string x, .int .i64 k]) :
    Calls Tryz.prog 139 #[.string s, .string t] w fun e w' => e = .returned (.tuple #[.string x, .int .i64 k]) ∧ Below w.heap.size w w' := by
  have hc : ∀ W, Gd W → Calls Tryz.prog 159 #[.string s, .string t, .func (Fn.func 161) #[] #[]] W fun e w' => e = .returned (.tuple #[.string x, .int .i64 k]) ∧ Below W.heap.size W w' := fun W hW => reckonMinus s t W hW hs ht h h2 x k hv
  have HC := Lib.hid hc
  clear hc hv h h2 hs ht
  go_enter Tryz.func139, Tryz.ntmps139
  go_wp2_with (go_at_call 159; (with_reducible refine (HC.out _ hG).mono ?_); rintro e w1 ⟨rfl, hb⟩)
  go_ret2
  exact ⟨rfl, hb⟩
end Go.Proofs.YtoifjjgakblhhaaGreatDoor

/- compare. -/
namespace Go.Proofs.YtoifjjgakblhhaaGreatDoor
open Go.RowKit

theorem cmpFT (c d : Array Value) (f g : Nat → Nat) (w : World) (hc : IsNum c false f) (hd : IsNum d true g) :
    Calls Tryz.prog 129 #[.agg c, .agg d] w fun e w' => e = .returned (.int .i64 1) ∧ Below w.heap.size w w' := by
  have h0 : ((w.alloc (.cells c 136)).alloc (.cells d 136)).cell? ⟨w.heap.size, 0, none⟩ = some (.bool false) := cell_of (heap_old _ (heap_new _ _ rfl)) _ hc.neg
  have h1 : ((w.alloc (.cells c 136)).alloc (.cells d 136)).cell? ⟨w.heap.size + 1, 0, none⟩ = some (.bool true) := cell_of (heap_new _ _ (by simp)) _ hd.neg
  go_enter Tryz.func129, Tryz.ntmps129
  go_wp2_with fail
  go_ret
  exact ⟨rfl, ((Below.refl _ _).alloc (Nat.le_refl _) _).alloc (by simp) _⟩

set_option maxHeartbeats 800000 in
theorem cmpFF (c d : Array Value) (f g : Nat → Nat) (w : World) (hc : IsNum c false f) (hd : IsNum d false g) :
    Calls Tryz.prog 129 #[.agg c, .agg d] w fun e w' => e = .returned (.int .i64 (cmpI (wval f) (wval g))) ∧ Below w.heap.size w w' := by
  have h0 : ((w.alloc (.cells c 136)).alloc (.cells d 136)).cell? ⟨w.heap.size, 0, none⟩ = some (.bool false) := cell_of (heap_old _ (heap_new _ _ rfl)) _ hc.neg
  have h1 : ((w.alloc (.cells c 136)).alloc (.cells d 136)).cell? ⟨w.heap.size + 1, 0, none⟩ = some (.bool false) := cell_of (heap_new _ _ (by simp)) _ hd.neg
  have b1 : ((w.alloc (.cells c 136)).alloc (.cells d 136)).heap[w.heap.size]? = some (.cells c 136) := heap_old _ (heap_new _ _ rfl)
  have b2 : ((w.alloc (.cells c 136)).alloc (.cells d 136)).heap[w.heap.size + 1]? = some (.cells d 136) := heap_new _ _ (by simp)
  have hb : Below w.heap.size w ((w.alloc (.cells c 136)).alloc (.cells d 136)) := ((Below.refl _ _).alloc (Nat.le_refl _) _).alloc (by simp) _
  have hs : w.heap.size ≤ ((w.alloc (.cells c 136)).alloc (.cells d 136)).heap.size := by simp; omega
  have B1 := Lib.hid b1
  have B2 := Lib.hid b2
  clear b1 b2
  go_enter Tryz.func129, Tryz.ntmps129
  go_wp2_with (first
      | ((with_reducible refine wpList_load_num w.heap.size c ?_ ?_ (.tmp 2) ?_ ?_ ?_ ?_); exact B1.out; exact hc.size; rfl; rfl; rfl)
      | ((with_reducible refine wpList_load_num (w.heap.size + 1) d ?_ ?_ (.tmp 3) ?_ ?_ ?_ ?_); exact B2.out; exact hd.size; rfl; rfl; rfl)
      | (go_at_call 152; (with_reducible refine (cmpAmt c d _ _ _ _ hc hd _).mono ?_); rintro e w' ⟨rfl, hbel⟩))
  go_ret
  exact ⟨rfl, below_any hb hbel hs⟩
theorem cmpTF (c d : Array Value) (f g : Nat → Nat) (w : World) (hc : IsNum c true f) (hd : IsNum d false g) :
    Calls Tryz.prog 129 #[.agg c, .agg d] w fun e w' => e = .returned (.int .i64 (-1)) ∧ Below w.heap.size w w' := by
  have h0 : ((w.alloc (.cells c 136)).alloc (.cells d 136)).cell? ⟨w.heap.size, 0, none⟩ = some (.bool true) := cell_of (heap_old _ (heap_new _ _ rfl)) _ hc.neg
  have h1 : ((w.alloc (.cells c 136)).alloc (.cells d 136)).cell? ⟨w.heap.size + 1, 0, none⟩ = some (.bool false) := cell_of (heap_new _ _ (by simp)) _ hd.neg
  go_enter Tryz.func129, Tryz.ntmps129
  go_wp2_with fail
  go_ret
  exact ⟨rfl, ((Below.refl _ _).alloc (Nat.le_refl _) _).alloc (by simp) _⟩

set_option maxHeartbeats 800000 in
theorem cmpTT (c d : Array Value) (f g : Nat → Nat) (w : World) (hc : IsNum c true f) (hd : IsNum d true g) :
    Calls Tryz.prog 129 #[.agg c, .agg d] w fun e w' => e = .returned (.int .i64 (cmpI (wval g) (wval f))) ∧ Below w.heap.size w w' := by
  have h0 : ((w.alloc (.cells c 136)).alloc (.cells d 136)).cell? ⟨w.heap.size, 0, none⟩ = some (.bool true) := cell_of (heap_old _ (heap_new _ _ rfl)) _ hc.neg
  have h1 : ((w.alloc (.cells c 136)).alloc (.cells d 136)).cell? ⟨w.heap.size + 1, 0, none⟩ = some (.bool true) := cell_of (heap_new _ _ (by simp)) _ hd.neg
  have b1 : ((w.alloc (.cells c 136)).alloc (.cells d 136)).heap[w.heap.size]? = some (.cells c 136) := heap_old _ (heap_new _ _ rfl)
  have b2 : ((w.alloc (.cells c 136)).alloc (.cells d 136)).heap[w.heap.size + 1]? = some (.cells d 136) := heap_new _ _ (by simp)
  have hb : Below w.heap.size w ((w.alloc (.cells c 136)).alloc (.cells d 136)) := ((Below.refl _ _).alloc (Nat.le_refl _) _).alloc (by simp) _
  have hs : w.heap.size ≤ ((w.alloc (.cells c 136)).alloc (.cells d 136)).heap.size := by simp; omega
  have B1 := Lib.hid b1
  have B2 := Lib.hid b2
  clear b1 b2
  go_enter Tryz.func129, Tryz.ntmps129
  go_wp2_with (first
      | ((with_reducible refine wpList_load_num w.heap.size c ?_ ?_ (.tmp 2) ?_ ?_ ?_ ?_); exact B1.out; exact hc.size; rfl; rfl; rfl)
      | ((with_reducible refine wpList_load_num (w.heap.size + 1) d ?_ ?_ (.tmp 3) ?_ ?_ ?_ ?_); exact B2.out; exact hd.size; rfl; rfl; rfl)
      | (go_at_call 152; (with_reducible refine (cmpAmt d c _ _ _ _ hd hc _).mono ?_); rintro e w' ⟨rfl, hbel⟩))
  go_ret
  exact ⟨rfl, below_any hb hbel hs⟩
theorem cmpS_ff (x y : Nat) : cmpS false x false y = cmpI x y := by simp [cmpS]
theorem cmpS_ft (x y : Nat) : cmpS false x true y = 1 := by simp [cmpS]
theorem cmpS_tf (x y : Nat) : cmpS true x false y = -1 := by simp [cmpS]
theorem cmpS_tt (x y : Nat) : cmpS true x true y = cmpI y x := by simp [cmpS]

theorem cmpNum (c d : Array Value) (n m : Bool) (f g : Nat → Nat) (w : World) (hc : IsNum c n f) (hd : IsNum d m g) :
    Calls Tryz.prog 129 #[.agg c, .agg d] w fun e w' => e = .returned (.int .i64 (cmpS n (wval f) m (wval g))) ∧ Below w.heap.size w w' := by
  cases n <;> cases m
  · rw [cmpS_ff]; exact cmpFF c d f g w hc hd
  · rw [cmpS_ft]; exact cmpFT c d f g w hc hd
  · rw [cmpS_tf]; exact cmpTF c d f g w hc hd
  · rw [cmpS_tt]; exact cmpTT c d f g w hc hd

end Go.Proofs.YtoifjjgakblhhaaGreatDoor
