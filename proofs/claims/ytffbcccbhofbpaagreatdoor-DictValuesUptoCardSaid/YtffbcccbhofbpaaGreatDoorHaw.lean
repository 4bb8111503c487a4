/- Texts of one kind, one behind the other: each says ahead of itself what it shows. -/
import Derived.Test.YtffbcccbhofbpaaGreatDoorHaj
import Derived.Deep.QuietTactic
import Derived.BigQuiet
import Derived.Test.YtffbcccbhofbpaaGreatDoorHav
import Derived.Test.YtffbcccbhofbpaaGreatDoorHao
import Derived.Test.YtffbcccbhofbpaaGreatDoorHap
import Derived.Deep.LoopGhost
import Derived.Deep.CutBlock
/- The document's own Same, for values in one another. -/
namespace Go.Proofs.YtffbcccbhofbpaaGreatDoor
open Go.RowKit

/-- The document's own Same's contract at a value. -/
def SameZ (v : Val) : Prop := ∀ (W : World) (k : Int) (b : Bool) (n : Int) (t x : ByteArray) (q : List Val) (p : Option Addr) (cap : Nat) (v2 : Val) (k2 : Int) (b2 : Bool) (n2 : Int) (t2 x2 : ByteArray) (q2 : List Val) (p2 : Option Addr) (cap2 : Nat),
  v = .mk k b n t x q → v2 = .mk k2 b2 n2 t2 x2 q2 → q.length ≤ 2097152 → Held W (.slice p q.length cap) q → Held W (.slice p2 q2.length cap2) q2 →
  Calls Tryz.prog 12 #[.agg #[.int .i64 k, .bool b, .int .i64 n, .string t, .string x, .slice p q.length cap], .agg #[.int .i64 k2, .bool b2, .int .i64 n2, .string t2, .string x2, .slice p2 q2.length cap2]] W
    fun e w' => e = .returned (.bool (sameP v v2)) ∧ Below W.heap.size W w'

theorem eqRowLen (p p2 : Option Addr) (n n2 cap cap2 : Nat) (w : World) (h : ¬ n = n2) :
    Calls Tryz.prog 29 #[.slice p n cap, .slice p2 n2 cap2] w fun e w' => e = .returned (.bool false) ∧ Below w.heap.size w w' := by
  have h1 : ((n : Int) != n2) = true := by simp; omega
  clear h
  go_enter Tryz.func29, Tryz.ntmps29
  go_wp2_with fail
  go_ret
  exact ⟨rfl, Below.refl _ _⟩
theorem eqRowNone (p p2 : Option Addr) (cap cap2 : Nat) (w : World) :
    Calls Tryz.prog 29 #[.slice p 0 cap, .slice p2 0 cap2] w fun e w' => e = .returned (.bool true) ∧ Below w.heap.size w w' := by
  go_enter Tryz.func29, Tryz.ntmps29
  go_wp2_with fail
  go_loopw [5] (fun i wr => i = .int .i64 0 ∧ wr = w) (fun _ _ => 0)
  case atStart => exact ⟨rfl, rfl⟩
  case round =>
    obtain ⟨rfl, rfl⟩ := hrel
    go_wp2_with fail
    go_ret
    exact ⟨rfl, Below.refl _ _⟩

set_option maxRecDepth 20000 in
set_option maxHeartbeats 3200000 in
theorem eqRowSome (l l2 : List Val) (g off cap g2 off2 cap2 : Nat) (w : World) (hl : Holds w g off l) (hl2 : Holds w g2 off2 l2) (hlen : l2.length = l.length) (hn : l.length ≤ 2097152) (each : ∀ v ∈ l, SameZ v) :
    Calls Tryz.prog 29 #[.slice (some ⟨g, off, none⟩) l.length cap, .slice (some ⟨g2, off2, none⟩) l.length cap2] w fun e w' => e = .returned (.bool (eachSame l l2)) ∧ Below w.heap.size w w' := by
  have HH := Lib.hid hl
  have HH2 := Lib.hid hl2
  have HE := Lib.hid each
  have HL := Lib.hid hlen
  clear hl hl2 each hlen
  go_enter Tryz.func29, Tryz.ntmps29
  go_wp2_with fail
  go_loopw [5] (fun i wr => ∃ j : Nat, j ≤ l.length ∧ i = .int .i64 j ∧ Below w.heap.size w wr ∧ ∀ (i : Nat) (h : i < l.length) (h2 : i < l2.length), i < j → sameP l[i] l2[i] = true) (fun i _ => l.length - (intOf i).toNat)
  case atStart => exact ⟨0, Nat.zero_le _, rfl, Below.refl _ _, fun _ _ _ h => absurd h (by omega)⟩
  case round =>
    obtain ⟨j, hj, rfl, hb, hall⟩ := hrel
    have HA := Lib.hid hall
    clear hall
    by_cases hlt : j < l.length
    · have hlt2 : j < l2.length := by have := HL.out; omega
      obtain ⟨k, b, n, t, x, q, p, cp, o1⟩ := (Holds.at_ l off HH.out j hlt).opens
      obtain ⟨k2, b2, n2, t2, x2, q2, p2, cp2, o2⟩ := (Holds.at_ l2 off2 HH2.out j hlt2).opens
      have hc := fun W (hb : Below w.heap.size w W) => HE.out l[j] (List.getElem_mem hlt) W k b n t x q p cp l2[j] k2 b2 n2 t2 x2 q2 p2 cp2 o1.e o2.e o1.hf.hn (Held.below q o1.hl hb) (Held.below q2 o2.hl hb)
      obtain ⟨r, hr⟩ : ∃ r, r = sameP l[j] l2[j] := ⟨_, rfl⟩
      rw [← hr] at hc
      have R1 : ∀ w', Below w.heap.size w w' → w'.rangeAt g (off + j * 6) [.int .i64 k, .bool b, .int .i64 n, .string t, .string x, .slice p q.length cp] := fun w' h => (o1.below h).range
      have R2 : ∀ w', Below w.heap.size w w' → w'.rangeAt g2 (off2 + j * 6) [.int .i64 k2, .bool b2, .int .i64 n2, .string t2, .string x2, .slice p2 q2.length cp2] := fun w' h => (o2.below h).range
      have HC := Lib.hid hc
      have HR := Lib.hid hr
      have HR1 := Lib.hid R1
      have HR2 := Lib.hid R2
      clear o1 o2 hr hc R1 R2
      have hlti : (j : Int) < l.length := by omega
      go_wp2_with fail
      refine wp_region_held_drew (S := fun w' => Below w.heap.size w w') (by kernel_rfl) hb.drew (fun hHeld => ?_)
      refine wpAnyH_take (i := 0) (v := .slice (some ⟨g, off, none⟩) l.length cap) rfl (by kernel_rfl) (by kernel_rfl) (by kernel_rfl) (fun _ _ _ h => h) (Or.inl ⟨by rfl, fun W _ => by go_simp⟩) hHeld ?_
      try simp only [Act.put, List.getElem_toArray, List.getElem_cons_succ, List.getElem_cons_zero, List.setIfInBounds_toArray, List.set_cons_zero, List.set_cons_succ]
      refine wpAnyH_take (i := 1) (v := .int .i64 j) rfl (by kernel_rfl) (by kernel_rfl) (by kernel_rfl) (fun _ _ _ h => h) (Or.inl ⟨by rfl, fun W _ => by go_simp⟩) hHeld ?_
      try simp only [Act.put, List.getElem_toArray, List.getElem_cons_succ, List.getElem_cons_zero, List.setIfInBounds_toArray, List.set_cons_zero, List.set_cons_succ]
      refine wpAnyH_take (i := 2) (v := .pointer (some ⟨g, off + j * 6, none⟩)) rfl (by kernel_rfl) (by kernel_rfl) (by kernel_rfl) (fun _ _ _ h => h) (Or.inl ⟨by rfl, fun W _ => by go_simp⟩) hHeld ?_
      try simp only [Act.put, List.getElem_toArray, List.getElem_cons_succ, List.getElem_cons_zero, List.setIfInBounds_toArray, List.set_cons_zero, List.set_cons_succ]
      refine wpAnyH_take (i := 3) rfl (by kernel_rfl) (by kernel_rfl) (by kernel_rfl) (fun _ _ _ h => h) (yieldsIf_load_mid (by rfl) 31 (.tmp 19) rfl g (off + j * 6) rfl _ _ (fun w h => HR1.out w h) Tryz.underlying31 rfl info28) hHeld ?_
      try simp only [Act.put, List.getElem_toArray, List.getElem_cons_succ, List.getElem_cons_zero, List.setIfInBounds_toArray, List.set_cons_zero, List.set_cons_succ]
      refine wpAnyH_take (i := 4) (v := .slice (some ⟨g2, off2, none⟩) l.length cap2) rfl (by kernel_rfl) (by kernel_rfl) (by kernel_rfl) (fun _ _ _ h => h) (Or.inl ⟨by rfl, fun W _ => by go_simp⟩) hHeld ?_
      try simp only [Act.put, List.getElem_toArray, List.getElem_cons_succ, List.getElem_cons_zero, List.setIfInBounds_toArray, List.set_cons_zero, List.set_cons_succ]
      refine wpAnyH_take (i := 5) (v := .int .i64 j) rfl (by kernel_rfl) (by kernel_rfl) (by kernel_rfl) (fun _ _ _ h => h) (Or.inl ⟨by rfl, fun W _ => by go_simp⟩) hHeld ?_
      try simp only [Act.put, List.getElem_toArray, List.getElem_cons_succ, List.getElem_cons_zero, List.setIfInBounds_toArray, List.set_cons_zero, List.set_cons_succ]
      refine wpAnyH_take (i := 6) (v := .pointer (some ⟨g2, off2 + j * 6, none⟩)) rfl (by kernel_rfl) (by kernel_rfl) (by kernel_rfl) (fun _ _ _ h => h) (Or.inl ⟨by rfl, fun W _ => by go_simp⟩) hHeld ?_
      try simp only [Act.put, List.getElem_toArray, List.getElem_cons_succ, List.getElem_cons_zero, List.setIfInBounds_toArray, List.set_cons_zero, List.set_cons_succ]
      refine wpAnyH_take (i := 7) rfl (by kernel_rfl) (by kernel_rfl) (by kernel_rfl) (fun _ _ _ h => h) (yieldsIf_load_mid (by rfl) 31 (.tmp 23) rfl g2 (off2 + j * 6) rfl _ _ (fun w h => HR2.out w h) Tryz.underlying31 rfl info28) hHeld ?_
      try simp only [Act.put, List.getElem_toArray, List.getElem_cons_succ, List.getElem_cons_zero, List.setIfInBounds_toArray, List.set_cons_zero, List.set_cons_succ]
      refine wpAnyH_ready (rs := [8]) (by kernel_rfl) (by simp) ?_
      refine AllReadyH.cons rfl (fun K hK => ?_) AllReadyH.nil
      rw [if_pos (by rfl)]
      go_simp
      refine (HC.out _ hHeld).mono ?_
      rintro e w3 ⟨rfl, hb3⟩
      refine hK.out _ _ (below_any hHeld hb3 hHeld.size) (fun hHeld2 => ?_)
      clear hK K hb3 hHeld
      try simp only [Act.put, List.getElem_toArray, List.getElem_cons_succ, List.getElem_cons_zero, List.setIfInBounds_toArray, List.set_cons_zero, List.set_cons_succ]
      refine wpAnyH_take (i := 9) (v := .bool (!r)) rfl (by kernel_rfl) (by kernel_rfl) (by kernel_rfl) (fun _ _ _ h => h) (Or.inl ⟨by rfl, fun W _ => by go_simp⟩) hHeld2 ?_
      try simp only [Act.put, List.getElem_toArray, List.getElem_cons_succ, List.getElem_cons_zero, List.setIfInBounds_toArray, List.set_cons_zero, List.set_cons_succ]
      refine wpAnyH_done (by kernel_rfl) ?_ _
      cases r with
      | true =>
        go_wp2_with fail
        go_roundw
        case rel =>
          refine ⟨j + 1, by omega, by go_num, hHeld2, fun i hi hi2 hlt' => ?_⟩
          by_cases e : i = j
          · subst e; exact HR.out.symm
          · exact HA.out i hi hi2 (by omega)
        case measure => simp [intOf]; omega
      | false =>
        go_wp2_with fail
        go_ret
        exact ⟨by rw [eachSame_no l l2 j hlt hlt2 HR.out.symm]; rfl, hHeld2⟩
    · go_wp2_with fail
      go_ret
      exact ⟨by rw [eachSame_yes l l2 fun i h h2 => HA.out i h h2 (by omega)]; rfl, hb⟩

theorem eqRowAt (l l2 : List Val) (p p2 : Option Addr) (cap cap2 : Nat) (w : World) (hl : Held w (.slice p l.length cap) l) (hl2 : Held w (.slice p2 l2.length cap2) l2) (hn : l.length ≤ 2097152) (each : ∀ v ∈ l, SameZ v) :
    Calls Tryz.prog 29 #[.slice p l.length cap, .slice p2 l2.length cap2] w fun e w' => e = .returned (.bool ((l.length == l2.length) && eachSame l l2)) ∧ Below w.heap.size w w' := by
  by_cases h : l.length = l2.length
  · rw [show (l.length == l2.length) = true by simpa using h, Bool.true_and, ← h]
    cases l with
    | nil =>
      unfold eachSame
      exact eqRowNone _ _ _ _ _
    | cons v r =>
      cases l2 with
      | nil => simp at h
      | cons v2 r2 =>
        obtain ⟨g, off, rfl, hh⟩ := hl.form
        obtain ⟨g2, off2, rfl, hh2⟩ := hl2.form
        exact eqRowSome (v :: r) (v2 :: r2) g off cap g2 off2 cap2 w hh hh2 h.symm hn each
  · rw [show (l.length == l2.length) = false by simpa using h, Bool.false_and]
    exact eqRowLen p p2 _ _ cap cap2 w h

set_option maxHeartbeats 1600000 in
theorem sameZ_step (v : Val) (k : Int) (b : Bool) (n : Int) (t x : ByteArray) (q : List Val) (ev : v = .mk k b n t x q) (each : ∀ u ∈ q, SameZ u) : SameZ v := by
  subst ev
  intro W k1 b1 n1 t1 x1 q1 p cap v2 k2 b2 n2 t2 x2 q2 p2 cap2 e1 e2 hn hl hl2
  cases e1
  subst e2
  unfold sameP
  obtain ⟨c1, hc1⟩ : ∃ c1, c1 = Obj.cells #[.int .i64 k, .bool b, .int .i64 n, .string t, .string x, .slice p q.length cap] 31 := ⟨_, rfl⟩
  obtain ⟨c2, hc2⟩ : ∃ c2, c2 = Obj.cells #[.int .i64 k2, .bool b2, .int .i64 n2, .string t2, .string x2, .slice p2 q2.length cap2] 31 := ⟨_, rfl⟩
  have b0 := below2 W c1 c2
  have hc := eqRowAt q q2 p p2 cap cap2 ((W.alloc c1).alloc c2) (Held.below q hl b0) (Held.below q2 hl2 b0) hn each
  have l0 : Six ((W.alloc c1).alloc c2) W.heap.size k b n t x p q.length cap := by rw [hc1]; exact (six_new _ rfl).alloc _
  have l1 : Six ((W.alloc c1).alloc c2) (W.heap.size + 1) k2 b2 n2 t2 x2 p2 q2.length cap2 := by rw [hc2]; exact six_new _ (by simp)
  have z0 := b0.size
  have f0 := l0.c0
  have f1 := l0.c1
  have f2 := l0.c2
  have f3 := l0.c3
  have f4 := l0.c4
  have f5 := l0.c5
  have g0 := l1.c0
  have g1 := l1.c1
  have g2 := l1.c2
  have g3 := l1.c3
  have g4 := l1.c4
  have g5 := l1.c5
  clear l0 l1 hl hl2 each hn
  subst hc1 hc2
  cases a0 : (k == k2) with
  | false =>
    rw [Bool.false_and]
    go_enter Tryz.func12, Tryz.ntmps12
    go_wp2_with fail
    go_ret
    exact ⟨rfl, b0⟩
  | true =>
    rw [Bool.true_and]
    cases a1 : (b == b2) with
    | false =>
      rw [Bool.false_and]
      go_enter Tryz.func12, Tryz.ntmps12
      go_wp2_with fail
      go_ret
      exact ⟨rfl, b0⟩
    | true =>
      rw [Bool.true_and]
      cases a2 : (n == n2) with
      | false =>
        rw [Bool.false_and]
        go_enter Tryz.func12, Tryz.ntmps12
        go_wp2_with fail
        go_ret
        exact ⟨rfl, b0⟩
      | true =>
        rw [Bool.true_and]
        cases a3 : (t.toList == t2.toList) with
        | false =>
          rw [Bool.false_and]
          go_enter Tryz.func12, Tryz.ntmps12
          go_wp2_with fail
          go_ret
          exact ⟨rfl, b0⟩
        | true =>
          rw [Bool.true_and]
          cases a4 : (x.toList == x2.toList) with
          | false =>
            rw [Bool.false_and]
            go_enter Tryz.func12, Tryz.ntmps12
            go_wp2_with fail
            go_ret
            exact ⟨rfl, b0⟩
          | true =>
            rw [Bool.true_and]
            generalize (q.length == q2.length && eachSame q q2) = r at hc ⊢
            go_enter Tryz.func12, Tryz.ntmps12
            go_wp2_with (go_at_call 29; (with_reducible refine hc.mono ?_); rintro e w3 ⟨rfl, hb3⟩; replace b0 := below_any b0 hb3 z0)
            go_ret
            exact ⟨rfl, b0⟩

mutual
theorem sameZAll : (v : Val) → SameZ v
  | .mk k b n t x q => sameZ_step _ k b n t x q rfl (sameZEach q)
theorem sameZEach : (q : List Val) → ∀ u ∈ q, SameZ u
  | [], _, h => absurd h (by simp)
  | v :: r, u, h => by
    rcases List.mem_cons.1 h with h | h
    · rw [h]; exact sameZAll v
    · exact sameZEach r u h
end
end Go.Proofs.YtffbcccbhofbpaaGreatDoor

/- How large a list of values is, and whether it isn't too deep: both answer. -/
namespace Go.Proofs.YtffbcccbhofbpaaGreatDoor
open Go.RowKit

def addW (a b : Int) : Int := wrap64 (a + b)
mutual
def sizeOne : Val → Int → Int
  | .mk _ _ _ t x l, n => addW (addW (addW (addW n 1) (wrap64 ((t.size : Int)/ 64))) (wrap64 ((x.size : Int)/ 64))) (sizeAll l 0)
def sizeAll : List Val → Int → Int
  | [], n => n
  | v :: r, n => sizeAll r (sizeOne v n)
end
theorem sizeAll_take : (l : List Val) → (n : Int) → (j : Nat) → (h : j < l.length) → sizeAll (l.take (j + 1)) n = sizeOne (l[j]'h) (sizeAll (l.take j) n)
  | [], _, j, h => absurd h (by simp)
  | v :: r, n, 0, _ => by
    show sizeAll (v :: r.take 0) n = sizeOne v (sizeAll [] n)
    simp [sizeAll]
  | v :: r, n, j + 1, h => by
    show sizeAll (v :: r.take (j + 1)) n = sizeOne (r[j]'(by simpa using h)) (sizeAll (v :: r.take j) n)
    unfold sizeAll
    exact sizeAll_take r _ j (by simpa using h)
/-- What Size answers of the list of a value that lies somewhere. -/
def SizeAt (v : Val) : Prop := ∀ (W : World) (k : Int) (b : Bool) (n : Int) (t x : ByteArray) (q : List Val) (p : Option Addr) (cap : Nat), v = .mk k b n t x q → q.length ≤ 2097152 → Held W (.slice p q.length cap) q →
  Calls Tryz.prog 4 #[.slice p q.length cap] W fun e w' => e = .returned (.int .i64 (sizeAll q 0)) ∧ ∃ m, w' = W.drewN m

set_option maxRecDepth 20000 in
set_option maxHeartbeats 1600000 in
theorem sizeSome (l : List Val) (g off cap : Nat) (w : World) (hl : Holds w g off l) (hn : l.length ≤ 2097152) (each : ∀ u ∈ l, SizeAt u) :
    Calls Tryz.prog 4 #[.slice (some ⟨g, off, none⟩) l.length cap] w fun e w' => e = .returned (.int .i64 (sizeAll l 0)) ∧ ∃ m, w' = w.drewN m := by
  obtain ⟨n, hln⟩ : ∃ n, n = l.length := ⟨_, rfl⟩
  rw [← hln] at hn ⊢
  have HL := Lib.hid hln
  have HH := Lib.hid hl
  have HE := Lib.hid each
  clear hl hln each
  go_enter Tryz.func4, Tryz.ntmps4
  go_wp2_with fail
  go_loopg [3, 4] n (fun gg s3 s4 wr => ∃ (j m : Nat) (z : Int), j + gg = n ∧ s4 = .int .i64 j ∧ s3 = .int .i64 z ∧ Hid (z = sizeAll (l.take j) 0) ∧ Hid (wr = w.drewN m))
  case atStart => exact ⟨0, 0, 0, by omega, rfl, rfl, Lib.hid (by simp [sizeAll]), Lib.hid rfl⟩
  case round =>
    obtain ⟨j, m, z, hjg, rfl, rfl, HZ, HW⟩ := hrel
    by_cases hlt : (j : Int) < n
    · have hj1 : j < l.length := by have := HL.out; omega
      obtain ⟨k, b, i, t, x, q, p, cp, o⟩ := (Holds.at_ l off HH.out j hj1).opens
      have o1 := o.below (w' := wr) (by rw [HW.out]; exact below_drewN (Below.refl _ _) m)
      have c3 := o1.c3
      have c4 := o1.c4
      have c5 := o1.c5
      have HC : ∀ nn, Calls Tryz.prog 4 #[.slice p q.length cp] (wr.drewN nn) fun e w' => e = .returned (.int .i64 (sizeAll q 0)) ∧ ∃ m', w' = (wr.drewN nn).drewN m' := fun nn =>
        HE.out l[j] (List.getElem_mem hj1) _ k b i t x q p cp o.e o.hf.hn (o1.below (below_drewN (Below.refl _ _) nn)).hl
      have HC := Lib.hid HC
      have hz : sizeAll (l.take (j + 1)) 0 = addW (addW (addW (addW z 1) (wrap64 ((t.size : Int)/ 64))) (wrap64 ((x.size : Int)/ 64))) (sizeAll q 0) := by
        rw [sizeAll_take l 0 j hj1, o.e, ← HZ.out]
        unfold sizeOne
        rfl
      have HZ2 := Lib.hid hz
      clear hz o o1
      generalize sizeAll q 0 = zq at *
      go_wp2_with fail
      go_quiet ((go_at_call 4; exact Calls.quiet_of (HC.out _)))
      go_wp2_with fail
      go_roundg (gk - 1)
      case measure => omega
      case rel => exact ⟨j + 1, m + nq, _, by omega, by go_num, rfl, Lib.hid (by rw [HZ2.out]; rfl), Lib.hid (by rw [HW.out, World.drewN_drewN])⟩
    · go_wp2_with fail
      go_ret
      have e : j = l.length := by have := HL.out; omega
      exact ⟨by rw [HZ.out, e, List.take_length]; rfl, m, HW.out⟩
theorem size_list (q : List Val) (p : Option Addr) (cap : Nat) (w : World) (hl : Held w (.slice p q.length cap) q) (hn : q.length ≤ 2097152) (each : ∀ u ∈ q, SizeAt u) :
    Calls Tryz.prog 4 #[.slice p q.length cap] w fun e w' => e = .returned (.int .i64 (sizeAll q 0)) ∧ ∃ m, w' = w.drewN m := by
  cases q with
  | nil =>
    go_enter Tryz.func4, Tryz.ntmps4
    go_wp2_with fail
    go_loopg [3, 4] 0 (fun gg s3 s4 wr => gg = 0 ∧ s3 = .int .i64 0 ∧ s4 = .int .i64 0 ∧ wr = w)
    case atStart => exact ⟨rfl, rfl, rfl, rfl⟩
    case round =>
      obtain ⟨_, rfl, rfl, rfl⟩ := hrel
      go_wp2_with fail
      go_ret
      exact ⟨rfl, 0, rfl⟩
  | cons v r =>
    obtain ⟨g, off, rfl, hh⟩ := hl.form
    exact sizeSome (v :: r) g off cap w hh hn each
mutual
theorem sizeVal : (v : Val) → SizeAt v
  | .mk k b n t x q => fun W k1 b1 n1 t1 x1 q1 p cap e hn hl => by
    cases e
    exact size_list q p cap W hl hn (sizeEach q)
theorem sizeEach : (q : List Val) → ∀ u ∈ q, SizeAt u
  | [], _, h => absurd h (by simp)
  | v :: r, u, h => by
    rcases List.mem_cons.1 h with h | h
    · rw [h]; exact sizeVal v
    · exact sizeEach r u h
end
end Go.Proofs.YtffbcccbhofbpaaGreatDoor

/- What the rounds of the law DictValues keep. -/
namespace Go.Proofs.YtffbcccbhofbpaaGreatDoor
open Go.RowKit

/-- Cells of values whose lists lay in the world at the beginning. -/
def CellsH (w : World) : List Value → List Val → Prop
  | xs, [] => xs = []
  | xs, .mk k b n t x q :: r => ∃ p c ys, xs = .int .i64 k :: .bool b :: .int .i64 n :: .string t :: .string x :: .slice p q.length c :: ys ∧ Fine n t x q.length ∧ Held w (.slice p q.length c) q ∧ CellsH w ys r
theorem CellsH.snoc {w : World} {k : Int} {b : Bool} {n : Int} {t x : ByteArray} {q : List Val} {p : Option Addr} {c : Nat} (hf : Fine n t x q.length) (hq : Held w (.slice p q.length c) q) : {xs : List Value} → (l : List Val) → CellsH w xs l → CellsH w (xs ++ [.int .i64 k, .bool b, .int .i64 n, .string t, .string x, .slice p q.length c]) (l ++ [.mk k b n t x q])
  | _, [], h => by
    unfold CellsH at h
    subst h
    show CellsH w _ [Val.mk k b n t x q]
    unfold CellsH
    exact ⟨p, c, [], rfl, hf, hq, by unfold CellsH; rfl⟩
  | _, .mk k' b' n' t' x' q' :: l, h => by
    unfold CellsH at h
    obtain ⟨p', c', ys, rfl, hf', hq', hr⟩ := h
    show CellsH w _ (Val.mk k' b' n' t' x' q' :: (l ++ [Val.mk k b n t x q]))
    unfold CellsH
    exact ⟨p', c', _, rfl, hf', hq', CellsH.snoc hf hq l hr⟩
theorem CellsH.at_ {w : World} {k : Int} {b : Bool} {n : Int} {t x : ByteArray} {q : List Val} : {xs : List Value} → (l : List Val) → CellsH w xs l → (j : Nat) → l[j]? = some (.mk k b n t x q) → ∃ p c, Fine n t x q.length ∧ Held w (.slice p q.length c) q ∧
    ∀ i u, [Value.int .i64 k, .bool b, .int .i64 n, .string t, .string x, .slice p q.length c][i]? = some u → xs[j * 6 + i]? = some u
  | _, [], _, j, hj => by simp at hj
  | _, .mk k' b' n' t' x' q' :: l, h, 0, hj => by
    unfold CellsH at h
    obtain ⟨p', c', ys, rfl, hf', hq', hr⟩ := h
    simp at hj
    obtain ⟨rfl, rfl, rfl, rfl, rfl, rfl⟩ := hj
    refine ⟨p', c', hf', hq', fun i u hu => ?_⟩
    rw [Nat.zero_mul, Nat.zero_add]
    have hi : i < 6 := by have := (List.getElem?_eq_some_iff.1 hu).1; simpa using this
    match i, hi, hu with
    | 0, _, hu => simpa using hu
    | 1, _, hu => simpa using hu
    | 2, _, hu => simpa using hu
    | 3, _, hu => simpa using hu
    | 4, _, hu => simpa using hu
    | 5, _, hu => simpa using hu
  | _, .mk k' b' n' t' x' q' :: l, h, j + 1, hj => by
    unfold CellsH at h
    obtain ⟨p', c', ys, rfl, hf', hq', hr⟩ := h
    obtain ⟨p, c, h1, h2, h3⟩ := CellsH.at_ l hr j (by simpa using hj)
    refine ⟨p, c, h1, h2, fun i u hu => ?_⟩
    have := h3 i u hu
    rw [show (j + 1) * 6 + i = (j * 6 + i) + 6 by omega]
    simpa using this
theorem CellsH.cells1 {w : World} : {xs : List Value} → (l : List Val) → CellsH w xs l → ∀ u ∈ xs, u.oneCell' = true
  | _, [], h, u, hu => by
    unfold CellsH at h
    subst h
    cases hu
  | _, .mk k b n t x q :: l, h, u, hu => by
    unfold CellsH at h
    obtain ⟨p, c, ys, rfl, hf, hq, hr⟩ := h
    simp only [List.mem_cons] at hu
    rcases hu with rfl | rfl | rfl | rfl | rfl | rfl | hu
    all_goals (try rfl)
    exact CellsH.cells1 l hr u hu
/-- A value's encoding as a text. -/
def encS (v : Val) : ByteArray := bs (encP v)
def VOk (v : Val) : Prop := mayP v 0 = true ∧ fineV v ∧ 13 * wOne v ≤ 800000000
theorem encS_inj {v u : Val} (hv : VOk v) (hu : VOk u) (h : encS v = encS u) : v = u := by
  refine enc_inj v u hv.2.1 hv.1 hu.2.1 hu.1 ?_
  have := congrArg (fun s => s.data.toList) h
  simpa [encS, bs] using this
theorem same_idx {al : List Val} (nd : al.Nodup) {v : Val} {jx : Nat} (hx : al[jx]? = some v ∨ (v ∉ al ∧ jx = al.length)) (m : Nat) (u : Val) (hm : al[m]? = some u) : sameP u v = decide (m = jx) := by
  have hlt := (List.getElem?_eq_some_iff.1 hm).1
  by_cases h : m = jx
  · rw [decide_eq_true h]
    subst h
    rcases hx with h2 | ⟨_, h2⟩
    · rw [hm] at h2
      cases h2
      exact sameP_refl _
    · omega
  · rw [decide_eq_false h]
    cases hs : sameP u v with
    | false => rfl
    | true =>
      have e := same_eq u v hs
      subst e
      rcases hx with h2 | ⟨h2, _⟩
      · exact absurd ((List.getElem?_inj hlt nd).1 (hm.trans h2.symm)) h
      · exact absurd (List.mem_of_getElem? hm) h2
/-- What the rounds keep: the argument's box, the dictionary, the row of values. -/
structure DInv (w : World) (L N : Value) (g0 : Nat) (ds al : List Val) (A : Value) (F : Nat → Prop) (xs : List Value) (W : World) : Prop where
  cell : W.cell? ⟨w.heap.size, 0, none⟩ = some L
  cell1 : W.cell? ⟨w.heap.size, 1, none⟩ = some N
  lt : w.heap.size < W.heap.size
  bel : Below w.heap.size w W
  dic : Dic W g0 (ds.map encS) F
  fr : ∀ i, F i → w.heap.size < i
  row : W.ownsRow (w.heap.size + 1) 31 6 A al.length xs
  dis : ∀ i, A.ownBlock = some i → ¬ F i
  cel : CellsH w xs al
section
variable {w : World} {L N : Value} {g0 : Nat} {ds al : List Val} {A : Value} {F : Nat → Prop} {xs : List Value} {W W2 : World}
theorem DInv.step (I : DInv w L N g0 ds al A F xs W) (k : Below W.heap.size W W2) : DInv w L N g0 ds al A F xs W2 :=
  ⟨(k.cell (p := ⟨w.heap.size, 0, none⟩) I.lt).trans I.cell, (k.cell (p := ⟨w.heap.size, 1, none⟩) I.lt).trans I.cell1, Nat.lt_of_lt_of_le I.lt k.size, below_any I.bel k (Nat.le_of_lt I.lt), I.dic.below k, I.fr, own_below I.row k, I.dis, I.cel⟩
theorem own_same {w w' : World} {base : Nat} {e : TypeId} {size : Nat} {v : Value} {n : Nat} {xs : List Value} (h : w.ownsRow base e size v n xs) (k : ∀ i, v.ownBlock = some i → w'.heap[i]? = w.heap[i]?) : w'.ownsRow base e size v n xs := by
  refine ⟨h.1, ?_⟩
  rcases h.2 with h0 | ⟨g, cap, cur, e1, h1, h2, h3⟩
  · exact .inl h0
  · exact .inr ⟨g, cap, cur, e1, h1, (k g (by rw [e1]; rfl)).trans h2, h3⟩
/-- A call on the dictionary. -/
theorem DInv.turn {ds' : List Val} {F' : Nat → Prop} (I : DInv w L N g0 ds al A F xs W) (t : Turn F F' W W2) (d : Dic W2 g0 (ds'.map encS) F') : DInv w L N g0 ds' al A F' xs W2 := by
  have hb : W2.heap[w.heap.size]? = W.heap[w.heap.size]? := t.ch.block _ I.lt (fun f => by have := I.fr _ f; omega)
  have fr' : ∀ i, F' i → w.heap.size < i := fun i f => (t.foot i f).elim (fun h => I.fr i h) (fun h => Nat.lt_of_lt_of_le I.lt h)
  exact ⟨(World.cell?_of_block (a := ⟨w.heap.size, 0, none⟩) hb).trans I.cell, (World.cell?_of_block (a := ⟨w.heap.size, 1, none⟩) hb).trans I.cell1, Nat.lt_of_lt_of_le I.lt t.ch.size,
    I.bel.trans (t.ch.below (Nat.le_of_lt I.lt) (fun i f => Nat.le_of_lt (I.fr i f))), d, fr', own_same I.row (fun i hi => t.ch.block i (I.row.lt i hi).2 (I.dis i hi)),
    fun i hi f => (t.foot i f).elim (I.dis i hi) (fun h => by have := (I.row.lt i hi).2; omega), I.cel⟩
/-- A value of new blocks is written over. -/
theorem DInv.wrote {lo hi : Nat} (I : DInv w L N g0 ds al A F xs W) (k : Wrote lo hi W W2) (hlo : w.heap.size < lo) (hF : ∀ i, F i → ¬ (lo ≤ i ∧ i < hi)) (hA : ∀ i, A.ownBlock = some i → ¬ (lo ≤ i ∧ i < hi)) : DInv w L N g0 ds al A F xs W2 := by
  have hb : W2.heap[w.heap.size]? = W.heap[w.heap.size]? := k.block _ I.lt (by omega)
  exact ⟨(World.cell?_of_block (a := ⟨w.heap.size, 0, none⟩) hb).trans I.cell, (World.cell?_of_block (a := ⟨w.heap.size, 1, none⟩) hb).trans I.cell1, Nat.lt_of_lt_of_le I.lt k.size,
    I.bel.trans ⟨k.os, k.tape, k.output, k.size, fun i h => k.block i (by have := I.lt; omega) (by omega)⟩, I.dic.keep (fun i f => k.block i (I.dic.lt f) (hF i f)), I.fr, own_same I.row (fun i hi => k.block i (I.row.lt i hi).2 (hA i hi)), I.dis, I.cel⟩
theorem DInv.gd (I : DInv w L N g0 ds al A F xs W) (hG : Gd w) : Gd W := hG.below I.bel
/-- The value j of the row. -/
theorem DInv.elem (I : DInv w L N g0 ds al A F xs W) {k : Int} {b : Bool} {n : Int} {t x : ByteArray} {q : List Val} (j : Nat) (hj : al[j]? = some (.mk k b n t x q)) :
    ∃ g cap p c, A = .slice (some ⟨g, 0, none⟩) al.length cap ∧ (∀ W', DInv w L N g0 ds al A F xs W' → W'.rangeAt g (j * 6) [.int .i64 k, .bool b, .int .i64 n, .string t, .string x, .slice p q.length c]) ∧ Fine n t x q.length ∧ Held w (.slice p q.length c) q := by
  obtain ⟨p, c, h1, h2, h3⟩ := CellsH.at_ al I.cel j hj
  have hlt := (List.getElem?_eq_some_iff.1 hj).1
  rcases I.row.2 with ⟨_, h0⟩ | ⟨g, cap, cur, e, _⟩
  · omega
  · refine ⟨g, cap, p, c, e, fun W' I' i u hu => ?_, h1, h2⟩
    have := I'.row.cells (g := g) (by rw [e]; rfl) (j * 6 + i) u (h3 i u hu)
    rw [Addr.add_mid, Nat.zero_add] at this
    exact this
/-- One value more in the row. -/
theorem DInv.more (I : DInv w L N g0 ds al A F xs W) {k : Int} {b : Bool} {n : Int} {t x : ByteArray} {q : List Val} {p : Option Addr} {c : Nat} (hf : Fine n t x q.length) (hq : Held w (.slice p q.length c) q) {A2 : Value} {o : Obj}
    (hown : W2.ownsRow (w.heap.size + 1) 31 6 A2 (al.length + 1) (xs ++ [.int .i64 k, .bool b, .int .i64 n, .string t, .string x, .slice p q.length c])) (hgrow : (W.alloc o).grownBy W2 A.ownBlock) (hloc : A2.ownBlock = A.ownBlock ∨ A2.ownBlock = some (W.heap.size + 1)) :
    DInv w L N g0 ds (al ++ [.mk k b n t x q]) A2 F (xs ++ [.int .i64 k, .bool b, .int .i64 n, .string t, .string x, .slice p q.length c]) W2 := by
  have hz : (W.alloc o).heap.size = W.heap.size + 1 := by simp
  have hs := hgrow.size
  have h0 := I.lt
  have keep : ∀ i, i < W.heap.size → A.ownBlock ≠ some i → W2.heap[i]? = W.heap[i]? := fun i hi hne => by
    rw [hgrow.block i (by omega) (fun h => hne h.symm)]
    exact Below.heap_alloc _ _ _ hi
  have hb := keep _ I.lt (fun h => by have := (I.row.lt _ h).1; omega)
  refine ⟨(World.cell?_of_block (a := ⟨w.heap.size, 0, none⟩) hb).trans I.cell, (World.cell?_of_block (a := ⟨w.heap.size, 1, none⟩) hb).trans I.cell1, by omega,
    (I.bel.alloc I.bel.size o).grown hgrow (by omega) (fun g hg => by have := (I.row.lt g hg).1; omega), I.dic.keep (fun i f => keep i (I.dic.lt f) (fun h => I.dis i h f)), I.fr, by rw [List.length_append]; exact hown, fun i hi f => ?_, CellsH.snoc hf hq al I.cel⟩
  rcases hloc with h | h
  · exact I.dis i (h ▸ hi) f
  · rw [h] at hi
    have := I.dic.lt f
    injection hi with hi
    omega
end
theorem heldSome {w : World} {p : Option Addr} {cap : Nat} {l : List Val} (h : Held w (.slice p l.length cap) l) (h0 : 0 < l.length) : ∃ g off, p = some ⟨g, off, none⟩ ∧ Holds w g off l := by
  cases l with
  | nil => simp at h0
  | cons v r =>
    obtain ⟨g, off, e, hh⟩ := h.form
    exact ⟨g, off, e, hh⟩
theorem nodup_snoc {al : List Val} {v : Val} (h : al.Nodup) (hv : v ∉ al) : (al ++ [v]).Nodup := by
  rw [List.nodup_append]
  refine ⟨h, by simp, fun a ha b hb => ?_⟩
  simp at hb
  subst hb
  exact fun e => hv (e ▸ ha)
theorem enc_mem {al : List Val} {v : Val} (hal : ∀ u ∈ al, VOk u) (hv : VOk v) : encS v ∈ al.map encS ↔ v ∈ al := by
  constructor
  · intro h
    obtain ⟨u, hu, e⟩ := List.mem_map.1 h
    exact encS_inj (hal u hu) hv e ▸ hu
  · exact fun h => List.mem_map.2 ⟨v, h, rfl⟩
end Go.Proofs.YtffbcccbhofbpaaGreatDoor
