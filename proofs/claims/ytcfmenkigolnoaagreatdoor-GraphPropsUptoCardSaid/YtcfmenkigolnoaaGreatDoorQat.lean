/- Texts of one kind, one behind the other: each says ahead of itself what it shows. -/
import Derived.Test.YtcfmenkigolnoaaGreatDoorQas
import Derived.Test.YtcfmenkigolnoaaGreatDoorQaf
import Derived.Test.YtcfmenkigolnoaaGreatDoorQar
/- Labels and ways, asked by a row of texts that is built for it. -/
namespace Go.Proofs.YtcfmenkigolnoaaGreatDoor
open Go.RowKit

/-- What tells a row of numbers. -/
def LabPost (W : World) (zs : List Int) (e : Ending) (w' : World) : Prop := ∃ p cap, e = .returned (.slice p zs.length cap) ∧ IntsAt w' (.slice p zs.length cap) zs ∧ Below W.heap.size W w'
theorem strs_new (W : World) (xs : List ByteArray) : StrsAt (W.alloc (.cells (xs.map Value.string).toArray 9)) (.slice (some ⟨W.heap.size, 0, none⟩) xs.length xs.length) xs :=
  ⟨_, _, rfl, fun _ => ⟨W.heap.size, 0, rfl, fun j hj => cell_of (heap_new _ _ rfl) (0 + j) (by simp [hj])⟩⟩
theorem askLab (W : World) (s : Nat) (g : GraphL) (h : StoreE W s g) (hg : GoodG g) (xs : List ByteArray) (hx : ∀ t ∈ xs, t.size ≤ 2097152) (hl : xs.length ≤ 2) :
    Calls Tryz.prog 31 #[.pointer (some ⟨s, 0, none⟩), .slice (some ⟨W.heap.size, 0, none⟩) xs.length xs.length] (W.alloc (.cells (xs.map Value.string).toArray 9)) (LabPost W (labeledL g xs)) := by
  have b0 := below1 W (.cells (xs.map Value.string).toArray 9)
  refine (labeledAt _ s g (h.below b0) hg.dn (fun a ha => (hg.labels a ha).2.1) hg.nn _ xs (strs_new W xs) (by omega) hx).mono ?_
  rintro e w' ⟨R, rfl, hR, hb⟩
  obtain ⟨p, cap, rfl⟩ := own_slice hR
  exact ⟨p, cap, rfl, ints_of_own hR, below_any b0 hb b0.size⟩
theorem eqOne (W : World) (z : Int) (p : Option Addr) (cap : Nat) (h : IntsAt W (.slice p 1 cap) [z]) :
    Calls Tryz.prog 24 #[.slice p 1 cap, .slice (some ⟨W.heap.size, 0, none⟩) 1 1] (W.alloc (.cells #[.int .i64 z] 2)) fun e w' => e = .returned (.bool true) ∧ Below W.heap.size W w' := by
  have b0 := below1 W (.cells #[.int .i64 z] 2)
  have q := eqNumsAt _ _ [z] [z] _ (h.below b0) ⟨_, 1, rfl, fun _ => ⟨W.heap.size, 0, rfl, fun j hj => cell_of (heap_new W _ rfl) (0 + j) (by
    have : j = 0 := by simpa using hj
    subst this
    rfl)⟩⟩ (by simp)
  refine q.mono ?_
  rintro e w' ⟨rfl, hb⟩
  exact ⟨by simp, below_any b0 hb b0.size⟩
end Go.Proofs.YtcfmenkigolnoaaGreatDoor

/- The document's own Same, for values in one another. -/
namespace Go.Proofs.YtcfmenkigolnoaaGreatDoor
open Go.RowKit

/-- The document's own Same's contract at a value. -/
def SameZ (v : Val) : Prop := ∀ (W : World) (k : Int) (b : Bool) (n : Int) (t x : ByteArray) (q : List Val) (p : Option Addr) (cap : Nat) (v2 : Val) (k2 : Int) (b2 : Bool) (n2 : Int) (t2 x2 : ByteArray) (q2 : List Val) (p2 : Option Addr) (cap2 : Nat),
  v = .mk k b n t x q → v2 = .mk k2 b2 n2 t2 x2 q2 → q.length ≤ 2097152 → Held W (.slice p q.length cap) q → Held W (.slice p2 q2.length cap2) q2 →
  Calls Tryz.prog 28 #[.agg #[.int .i64 k, .bool b, .int .i64 n, .string t, .string x, .slice p q.length cap], .agg #[.int .i64 k2, .bool b2, .int .i64 n2, .string t2, .string x2, .slice p2 q2.length cap2]] W
    fun e w' => e = .returned (.bool (sameP v v2)) ∧ Below W.heap.size W w'

theorem eqRowLen (p p2 : Option Addr) (n n2 cap cap2 : Nat) (w : World) (h : ¬ n = n2) :
    Calls Tryz.prog 60 #[.slice p n cap, .slice p2 n2 cap2] w fun e w' => e = .returned (.bool false) ∧ Below w.heap.size w w' := by
  have h1 : ((n : Int) != n2) = true := by simp; omega
  clear h
  go_enter Tryz.func60, Tryz.ntmps60
  go_wp2_with fail
  go_ret
  exact ⟨rfl, Below.refl _ _⟩
theorem eqRowNone (p p2 : Option Addr) (cap cap2 : Nat) (w : World) :
    Calls Tryz.prog 60 #[.slice p 0 cap, .slice p2 0 cap2] w fun e w' => e = .returned (.bool true) ∧ Below w.heap.size w w' := by
  go_enter Tryz.func60, Tryz.ntmps60
  go_wp2_with fail
  go_loopw [5] (fun i wr => i = .int .i64 0 ∧ wr = w) (fun _ _ => 0)
  case atStart => exact ⟨rfl, rfl⟩
  case round =>
    obtain ⟨rfl, rfl⟩ := hrel
    go_wp2_with fail
    go_ret
    exact ⟨rfl, Below.refl _ _⟩

set_option maxRecDepth 20000 in
set_option maxHeartbeats 3200000 in
theorem eqRowSome (l l2 : List Val) (g off cap g2 off2 cap2 : Nat) (w : World) (hl : Holds w g off l) (hl2 : Holds w g2 off2 l2) (hlen : l2.length = l.length) (hn : l.length ≤ 2097152) (each : ∀ v ∈ l, SameZ v) :
    Calls Tryz.prog 60 #[.slice (some ⟨g, off, none⟩) l.length cap, .slice (some ⟨g2, off2, none⟩) l.length cap2] w fun e w' => e = .returned (.bool (eachSame l l2)) ∧ Below w.heap.size w w' := by
  have HH := Lib.hid hl
  have HH2 := Lib.hid hl2
  have HE := Lib.hid each
  have HL := Lib.hid hlen
  clear hl hl2 each hlen
  go_enter Tryz.func60, Tryz.ntmps60
  go_wp2_with fail
  go_loopw [5] (fun i wr => ∃ j : Nat, j ≤ l.length ∧ i = .int .i64 j ∧ Below w.heap.size w wr ∧ ∀ (i : Nat) (h : i < l.length) (h2 : i < l2.length), i < j → sameP l[i] l2[i] = true) (fun i _ => l.length - (intOf i).toNat)
  case atStart => exact ⟨0, Nat.zero_le _, rfl, Below.refl _ _, fun _ _ _ h => absurd h (by omega)⟩
  case round =>
    obtain ⟨j, hj, rfl, hb, hall⟩ := hrel
    have HA := Lib.hid hall
    clear hall
    by_cases hlt : j < l.length
    · have hlt2 : j < l2.length := by have := HL.out; omega
      obtain ⟨k, b, n, t, x, q, p, cp, o1⟩ := (Holds.at_ l off HH.out j hlt).opens
      obtain ⟨k2, b2, n2, t2, x2, q2, p2, cp2, o2⟩ := (Holds.at_ l2 off2 HH2.out j hlt2).opens
      have hc := fun W (hb : Below w.heap.size w W) => HE.out l[j] (List.getElem_mem hlt) W k b n t x q p cp l2[j] k2 b2 n2 t2 x2 q2 p2 cp2 o1.e o2.e o1.hf.hn (Held.below q o1.hl hb) (Held.below q2 o2.hl hb)
      obtain ⟨r, hr⟩ : ∃ r, r = sameP l[j] l2[j] := ⟨_, rfl⟩
      rw [← hr] at hc
      have R1 : ∀ w', Below w.heap.size w w' → w'.rangeAt g (off + j * 6) [.int .i64 k, .bool b, .int .i64 n, .string t, .string x, .slice p q.length cp] := fun w' h => (o1.below h).range
      have R2 : ∀ w', Below w.heap.size w w' → w'.rangeAt g2 (off2 + j * 6) [.int .i64 k2, .bool b2, .int .i64 n2, .string t2, .string x2, .slice p2 q2.length cp2] := fun w' h => (o2.below h).range
      have HC := Lib.hid hc
      have HR := Lib.hid hr
      have HR1 := Lib.hid R1
      have HR2 := Lib.hid R2
      clear o1 o2 hr hc R1 R2
      have hlti : (j : Int) < l.length := by omega
      go_wp2_with fail
      refine wp_region_held_drew (S := fun w' => Below w.heap.size w w') (by kernel_rfl) hb.drew (fun hHeld => ?_)
      refine wpAnyH_take (i := 0) (v := .slice (some ⟨g, off, none⟩) l.length cap) rfl (by kernel_rfl) (by kernel_rfl) (by kernel_rfl) (fun _ _ _ h => h) (Or.inl ⟨by rfl, fun W _ => by go_simp⟩) hHeld ?_
      try simp only [Act.put, List.getElem_toArray, List.getElem_cons_succ, List.getElem_cons_zero, List.setIfInBounds_toArray, List.set_cons_zero, List.set_cons_succ]
      refine wpAnyH_take (i := 1) (v := .int .i64 j) rfl (by kernel_rfl) (by kernel_rfl) (by kernel_rfl) (fun _ _ _ h => h) (Or.inl ⟨by rfl, fun W _ => by go_simp⟩) hHeld ?_
      try simp only [Act.put, List.getElem_toArray, List.getElem_cons_succ, List.getElem_cons_zero, List.setIfInBounds_toArray, List.set_cons_zero, List.set_cons_succ]
      refine wpAnyH_take (i := 2) (v := .pointer (some ⟨g, off + j * 6, none⟩)) rfl (by kernel_rfl) (by kernel_rfl) (by kernel_rfl) (fun _ _ _ h => h) (Or.inl ⟨by rfl, fun W _ => by go_simp⟩) hHeld ?_
      try simp only [Act.put, List.getElem_toArray, List.getElem_cons_succ, List.getElem_cons_zero, List.setIfInBounds_toArray, List.set_cons_zero, List.set_cons_succ]
      refine wpAnyH_take (i := 3) rfl (by kernel_rfl) (by kernel_rfl) (by kernel_rfl) (fun _ _ _ h => h) (yieldsIf_load_mid (by rfl) 60 (.tmp 19) rfl g (off + j * 6) rfl _ _ (fun w h => HR1.out w h) Tryz.underlying60 rfl info28) hHeld ?_
      try simp only [Act.put, List.getElem_toArray, List.getElem_cons_succ, List.getElem_cons_zero, List.setIfInBounds_toArray, List.set_cons_zero, List.set_cons_succ]
      refine wpAnyH_take (i := 4) (v := .slice (some ⟨g2, off2, none⟩) l.length cap2) rfl (by kernel_rfl) (by kernel_rfl) (by kernel_rfl) (fun _ _ _ h => h) (Or.inl ⟨by rfl, fun W _ => by go_simp⟩) hHeld ?_
      try simp only [Act.put, List.getElem_toArray, List.getElem_cons_succ, List.getElem_cons_zero, List.setIfInBounds_toArray, List.set_cons_zero, List.set_cons_succ]
      refine wpAnyH_take (i := 5) (v := .int .i64 j) rfl (by kernel_rfl) (by kernel_rfl) (by kernel_rfl) (fun _ _ _ h => h) (Or.inl ⟨by rfl, fun W _ => by go_simp⟩) hHeld ?_
      try simp only [Act.put, List.getElem_toArray, List.getElem_cons_succ, List.getElem_cons_zero, List.setIfInBounds_toArray, List.set_cons_zero, List.set_cons_succ]
      refine wpAnyH_take (i := 6) (v := .pointer (some ⟨g2, off2 + j * 6, none⟩)) rfl (by kernel_rfl) (by kernel_rfl) (by kernel_rfl) (fun _ _ _ h => h) (Or.inl ⟨by rfl, fun W _ => by go_simp⟩) hHeld ?_
      try simp only [Act.put, List.getElem_toArray, List.getElem_cons_succ, List.getElem_cons_zero, List.setIfInBounds_toArray, List.set_cons_zero, List.set_cons_succ]
      refine wpAnyH_take (i := 7) rfl (by kernel_rfl) (by kernel_rfl) (by kernel_rfl) (fun _ _ _ h => h) (yieldsIf_load_mid (by rfl) 60 (.tmp 23) rfl g2 (off2 + j * 6) rfl _ _ (fun w h => HR2.out w h) Tryz.underlying60 rfl info28) hHeld ?_
      try simp only [Act.put, List.getElem_toArray, List.getElem_cons_succ, List.getElem_cons_zero, List.setIfInBounds_toArray, List.set_cons_zero, List.set_cons_succ]
      refine wpAnyH_ready (rs := [8]) (by kernel_rfl) (by simp) ?_
      refine AllReadyH.cons rfl (fun K hK => ?_) AllReadyH.nil
      rw [if_pos (by rfl)]
      go_simp
      refine (HC.out _ hHeld).mono ?_
      rintro e w3 ⟨rfl, hb3⟩
      refine hK.out _ _ (below_any hHeld hb3 hHeld.size) (fun hHeld2 => ?_)
      clear hK K hb3 hHeld
      try simp only [Act.put, List.getElem_toArray, List.getElem_cons_succ, List.getElem_cons_zero, List.setIfInBounds_toArray, List.set_cons_zero, List.set_cons_succ]
      refine wpAnyH_take (i := 9) (v := .bool (!r)) rfl (by kernel_rfl) (by kernel_rfl) (by kernel_rfl) (fun _ _ _ h => h) (Or.inl ⟨by rfl, fun W _ => by go_simp⟩) hHeld2 ?_
      try simp only [Act.put, List.getElem_toArray, List.getElem_cons_succ, List.getElem_cons_zero, List.setIfInBounds_toArray, List.set_cons_zero, List.set_cons_succ]
      refine wpAnyH_done (by kernel_rfl) ?_ _
      cases r with
      | true =>
        go_wp2_with fail
        go_roundw
        case rel =>
          refine ⟨j + 1, by omega, by go_num, hHeld2, fun i hi hi2 hlt' => ?_⟩
          by_cases e : i = j
          · subst e; exact HR.out.symm
          · exact HA.out i hi hi2 (by omega)
        case measure => simp [intOf]; omega
      | false =>
        go_wp2_with fail
        go_ret
        exact ⟨by rw [eachSame_no l l2 j hlt hlt2 HR.out.symm]; rfl, hHeld2⟩
    · go_wp2_with fail
      go_ret
      exact ⟨by rw [eachSame_yes l l2 fun i h h2 => HA.out i h h2 (by omega)]; rfl, hb⟩

theorem eqRowAt (l l2 : List Val) (p p2 : Option Addr) (cap cap2 : Nat) (w : World) (hl : Held w (.slice p l.length cap) l) (hl2 : Held w (.slice p2 l2.length cap2) l2) (hn : l.length ≤ 2097152) (each : ∀ v ∈ l, SameZ v) :
    Calls Tryz.prog 60 #[.slice p l.length cap, .slice p2 l2.length cap2] w fun e w' => e = .returned (.bool ((l.length == l2.length) && eachSame l l2)) ∧ Below w.heap.size w w' := by
  by_cases h : l.length = l2.length
  · rw [show (l.length == l2.length) = true by simpa using h, Bool.true_and, ← h]
    cases l with
    | nil =>
      unfold eachSame
      exact eqRowNone _ _ _ _ _
    | cons v r =>
      cases l2 with
      | nil => simp at h
      | cons v2 r2 =>
        obtain ⟨g, off, rfl, hh⟩ := hl.form
        obtain ⟨g2, off2, rfl, hh2⟩ := hl2.form
        exact eqRowSome (v :: r) (v2 :: r2) g off cap g2 off2 cap2 w hh hh2 h.symm hn each
  · rw [show (l.length == l2.length) = false by simpa using h, Bool.false_and]
    exact eqRowLen p p2 _ _ cap cap2 w h

set_option maxHeartbeats 1600000 in
theorem sameZ_step (v : Val) (k : Int) (b : Bool) (n : Int) (t x : ByteArray) (q : List Val) (ev : v = .mk k b n t x q) (each : ∀ u ∈ q, SameZ u) : SameZ v := by
  subst ev
  intro W k1 b1 n1 t1 x1 q1 p cap v2 k2 b2 n2 t2 x2 q2 p2 cap2 e1 e2 hn hl hl2
  cases e1
  subst e2
  unfold sameP
  obtain ⟨c1, hc1⟩ : ∃ c1, c1 = Obj.cells #[.int .i64 k, .bool b, .int .i64 n, .string t, .string x, .slice p q.length cap] 60 := ⟨_, rfl⟩
  obtain ⟨c2, hc2⟩ : ∃ c2, c2 = Obj.cells #[.int .i64 k2, .bool b2, .int .i64 n2, .string t2, .string x2, .slice p2 q2.length cap2] 60 := ⟨_, rfl⟩
  have b0 := below2 W c1 c2
  have hc := eqRowAt q q2 p p2 cap cap2 ((W.alloc c1).alloc c2) (Held.below q hl b0) (Held.below q2 hl2 b0) hn each
  have l0 : Six ((W.alloc c1).alloc c2) W.heap.size k b n t x p q.length cap := by rw [hc1]; exact (six_new _ rfl).alloc _
  have l1 : Six ((W.alloc c1).alloc c2) (W.heap.size + 1) k2 b2 n2 t2 x2 p2 q2.length cap2 := by rw [hc2]; exact six_new _ (by simp)
  have z0 := b0.size
  have f0 := l0.c0
  have f1 := l0.c1
  have f2 := l0.c2
  have f3 := l0.c3
  have f4 := l0.c4
  have f5 := l0.c5
  have g0 := l1.c0
  have g1 := l1.c1
  have g2 := l1.c2
  have g3 := l1.c3
  have g4 := l1.c4
  have g5 := l1.c5
  clear l0 l1 hl hl2 each hn
  subst hc1 hc2
  cases a0 : (k == k2) with
  | false =>
    rw [Bool.false_and]
    go_enter Tryz.func28, Tryz.ntmps28
    go_wp2_with fail
    go_ret
    exact ⟨rfl, b0⟩
  | true =>
    rw [Bool.true_and]
    cases a1 : (b == b2) with
    | false =>
      rw [Bool.false_and]
      go_enter Tryz.func28, Tryz.ntmps28
      go_wp2_with fail
      go_ret
      exact ⟨rfl, b0⟩
    | true =>
      rw [Bool.true_and]
      cases a2 : (n == n2) with
      | false =>
        rw [Bool.false_and]
        go_enter Tryz.func28, Tryz.ntmps28
        go_wp2_with fail
        go_ret
        exact ⟨rfl, b0⟩
      | true =>
        rw [Bool.true_and]
        cases a3 : (t.toList == t2.toList) with
        | false =>
          rw [Bool.false_and]
          go_enter Tryz.func28, Tryz.ntmps28
          go_wp2_with fail
          go_ret
          exact ⟨rfl, b0⟩
        | true =>
          rw [Bool.true_and]
          cases a4 : (x.toList == x2.toList) with
          | false =>
            rw [Bool.false_and]
            go_enter Tryz.func28, Tryz.ntmps28
            go_wp2_with fail
            go_ret
            exact ⟨rfl, b0⟩
          | true =>
            rw [Bool.true_and]
            generalize (q.length == q2.length && eachSame q q2) = r at hc ⊢
            go_enter Tryz.func28, Tryz.ntmps28
            go_wp2_with (go_at_call 60; (with_reducible refine hc.mono ?_); rintro e w3 ⟨rfl, hb3⟩; replace b0 := below_any b0 hb3 z0)
            go_ret
            exact ⟨rfl, b0⟩

mutual
theorem sameZAll : (v : Val) → SameZ v
  | .mk k b n t x q => sameZ_step _ k b n t x q rfl (sameZEach q)
theorem sameZEach : (q : List Val) → ∀ u ∈ q, SameZ u
  | [], _, h => absurd h (by simp)
  | v :: r, u, h => by
    rcases List.mem_cons.1 h with h | h
    · rw [h]; exact sameZAll v
    · exact sameZEach r u h
end
end Go.Proofs.YtcfmenkigolnoaaGreatDoor

/- wakes: the example of the law; two values compared. -/
namespace Go.Proofs.YtcfmenkigolnoaaGreatDoor
open Go.RowKit

mutual
theorem sameP_self : (v : Val) → sameP v v = true
  | .mk k b n t x l => by
    unfold sameP
    rw [eachSame_self l]
    simp
theorem eachSame_self : (l : List Val) → eachSame l l = true
  | [] => by unfold eachSame; rfl
  | v :: r => by
    unfold eachSame
    rw [sameP_self v, eachSame_self r]
    rfl
end
theorem sameValAt (v u : Val) (c c2 : List Value) (W : World) (P P2 : Nat → Prop) (h : valE.rel W P c v) (h2 : valE.rel W P2 c2 u) :
    Calls Tryz.prog 28 #[.agg c.toArray, .agg c2.toArray] W fun e w' => e = .returned (.bool (sameP v u)) ∧ Below W.heap.size W w' := by
  obtain ⟨k, b, n, t, x, q⟩ := v
  obtain ⟨k2, b2, n2, t2, x2, q2⟩ := u
  obtain ⟨L, rfl, hf, hq⟩ := h
  obtain ⟨L2, rfl, hf2, hq2⟩ := h2
  obtain ⟨p, cap, rfl⟩ := held_slice (HeldF.held q hq)
  obtain ⟨p2, cap2, rfl⟩ := held_slice (HeldF.held q2 hq2)
  exact sameZAll _ W k b n t x q p cap _ k2 b2 n2 t2 x2 q2 p2 cap2 rfl rfl hf.hn (HeldF.held q hq) (HeldF.held q2 hq2)
theorem field25_1 (p q : Option Addr) (n m c d : Nat) (w : World) : (Instr.field 25 (.agg #[.slice p n c, .slice q m d]) 1).run Tryz.prog w = .ok (.slice q m d) w := by kernel_rfl
def gW : GraphL := ⟨[⟨1, [⟨#[65]⟩], []⟩], [⟨7, 1, 1, ⟨#[116]⟩, []⟩]⟩
theorem gW_may : graphP gW = true := by decide
theorem gW_good : GoodG gW := goodG gW_may
def wW : Way := ⟨(1, 0), by decide⟩
theorem numsE_gW : numsE gW = [7] := by simp [numsE, gW]
theorem numsN_gW : numsN gW = [1] := by simp [numsN, gW]
theorem gW_hops : hopsL gW wW [] = [7] := by
  unfold hopsL
  rw [numsE_gW]
  decide
theorem gW_lab : labeledL gW [⟨#[65]⟩] = [1] := by
  unfold labeledL
  rw [numsN_gW]
  simp [hasLbl, labelsOf, gW, sortS, bl_ofL]
set_option maxHeartbeats 3200000 in
set_option maxRecDepth 20000 in
theorem wakesAt (w : World) (hG : Gd w) : Calls Tryz.prog 9 #[] w fun e w' => e = .returned (.bool true) ∧ Below w.heap.size w w' := by
  obtain ⟨w1, hw1⟩ : ∃ w1, w1 = ((w.alloc (.cells #[.string ⟨#[65]⟩] 9)).alloc (.cells #[.int .i64 1, .slice (some ⟨w.heap.size, 0, none⟩) 1 1, .slice none 0 0] 38)).alloc (.cells #[.int .i64 7, .int .i64 1, .int .i64 1, .string ⟨#[116]⟩, .slice none 0 0] 41) := ⟨_, rfl⟩
  have bw : Below w.heap.size w w1 := by rw [hw1]; exact (below2 _ _ _).alloc (by simp; omega) _
  have u0 : w1.heap[w.heap.size]? = some (.cells #[.string ⟨#[65]⟩] 9 (0, 0)) := by rw [hw1]; exact heap_old _ (heap_old _ (heap_new _ _ rfl))
  have u1 : w1.heap[w.heap.size + 1]? = some (.cells #[.int .i64 1, .slice (some ⟨w.heap.size, 0, none⟩) 1 1, .slice none 0 0] 38 (0, 0)) := by rw [hw1]; exact heap_old _ (heap_new _ _ (by simp))
  have u2 : w1.heap[w.heap.size + 1 + 1]? = some (.cells #[.int .i64 7, .int .i64 1, .int .i64 1, .string ⟨#[116]⟩, .slice none 0 0] 41 (0, 0)) := by rw [hw1]; exact heap_new _ _ (by simp)
  have hsz : w1.heap.size = w.heap.size + 3 := by rw [hw1]; simp
  have sl : SliceE textE w1 (Old w1) (.slice (some ⟨w.heap.size, 0, none⟩) 1 1) [⟨#[65]⟩] := ⟨_, 1, rfl, fun _ => ⟨w.heap.size, 0, _, rfl, by show w.heap.size < w1.heap.size; omega, range_of_heap u0 0 [.string ⟨#[65]⟩] rfl, RowE.single ⟨rfl, by decide⟩⟩⟩
  have sn : SliceE nodeE w1 (Old w1) (.slice (some ⟨w.heap.size + 1, 0, none⟩) 1 1) gW.nodes := ⟨_, 1, rfl, fun _ => ⟨w.heap.size + 1, 0, _, rfl, by show w.heap.size + 1 < w1.heap.size; omega, range_of_heap u1 0 [.int .i64 1, .slice (some ⟨w.heap.size, 0, none⟩) 1 1, .slice none 0 0] rfl, RowE.single ⟨_, _, rfl, by decide, by decide, by decide, sl, SliceE.nil _ _⟩⟩⟩
  have se : SliceE edgeE w1 (Old w1) (.slice (some ⟨w.heap.size + 1 + 1, 0, none⟩) 1 1) gW.edges := ⟨_, 1, rfl, fun _ => ⟨w.heap.size + 1 + 1, 0, _, rfl, by show w.heap.size + 1 + 1 < w1.heap.size; omega, range_of_heap u2 0 [.int .i64 7, .int .i64 1, .int .i64 1, .string ⟨#[116]⟩, .slice none 0 0] rfl, RowE.single ⟨_, rfl, by decide, by decide, by decide, SliceE.nil _ _⟩⟩⟩
  have hl := loadAt gW _ _ w1 (hG.below bw) sn se (by decide) (by decide)
  have HL := Lib.hid hl
  have HBW := Lib.hid bw
  have HW := Lib.hid hw1
  clear hl sn se sl u0 u1 u2 hsz bw hG hw1
  have hf25 := field25_1
  go_enter Tryz.func9, Tryz.ntmps9
  go_upto_region 2 with (first
    | (rw [← HW.out]; go_at_call 11; go_loud (refine HL.out.mono ?_); rintro e w2 ⟨hb2, hs⟩; rw [if_pos gW_may] at hs; obtain ⟨s, rfl, hst⟩ := hs))
  have b2 := below_any HBW.out hb2 HBW.out.size
  have HHP : Hid (Calls Tryz.prog 23 #[.pointer (some ⟨s, 0, none⟩), .int .i64 1, .int .i64 0, .slice none 0 0] w2 (fun e w' => ∃ p cap, e = .returned (.slice p 1 cap) ∧ IntsAt w' (.slice p 1 cap) [7] ∧ Below w2.heap.size w2 w')) := Lib.hid (by
    refine (hopsAt w2 s gW hst gW_good.de gW_good.ne wW (.slice none 0 0) [] ⟨none, 0, rfl, fun h => absurd rfl h⟩ (by decide)).mono ?_
    rintro e w' ⟨R, rfl, hR, hb⟩
    rw [gW_hops] at hR
    obtain ⟨p, cap, rfl⟩ := own_slice hR
    exact ⟨p, cap, rfl, ints_of_own hR, hb⟩)
  have HLB : Hid (∀ W', StoreE W' s gW → Calls Tryz.prog 31 #[.pointer (some ⟨s, 0, none⟩), .slice (some ⟨W'.heap.size, 0, none⟩) 1 1] (W'.alloc (.cells #[.string ⟨#[65]⟩] 9)) (fun e w' => ∃ p cap, e = .returned (.slice p 1 cap) ∧ IntsAt w' (.slice p 1 cap) [1] ∧ Below W'.heap.size W' w')) := Lib.hid fun W' h => by
    refine (askLab W' s gW h gW_good [⟨#[65]⟩] (fun t ht => by
      obtain rfl : t = ⟨#[65]⟩ := by simpa using ht
      decide) (by decide)).mono ?_
    rintro e w' ⟨p, cap, rfl, hi, hb⟩
    rw [gW_lab] at hi ⊢
    exact ⟨p, cap, rfl, hi, hb⟩
  have HPL : Hid (∀ W', StoreE W' s gW → Calls Tryz.prog 16 #[.pointer (some ⟨s, 0, none⟩)] W' (fun e w' => ∃ pn nn kn pe ke, e = .returned (.agg #[.slice pn nn kn, .slice pe 1 ke]) ∧ Below W'.heap.size W' w')) := Lib.hid fun W' h => by
    refine (plainAt W' s gW h gW_good).mono ?_
    intro e w' hp
    obtain ⟨vn, ve, rfl, hn, he, hb⟩ := hp.slices
    obtain ⟨p1, c1, rfl⟩ := hn.slice
    obtain ⟨p2, c2, rfl⟩ := he.slice
    rw [show (plainG gW).edges.length = 1 from plainG_edges gW]
    exact ⟨p1, _, c1, p2, c2, rfl, hb⟩
  have HEQ := Lib.hid (fun W' z p cap h => eqOne W' z p cap h)
  have HST := Lib.hid hst
  have HB2 := Lib.hid b2
  clear hst hb2 b2 HL HBW HW
  go_wp2_with (first
    | (go_at_call 23; (with_reducible refine HHP.out.mono ?_); rintro e w3 ⟨p3, k3, rfl, hi3, hb3⟩; have B3 := hb3)
    | (go_at_call 24; (with_reducible refine (HEQ.out _ 7 p3 k3 hi3).mono ?_); rintro e w4 ⟨rfl, hb4⟩; have B4 := below_any B3 hb4 B3.size; have st4 := HST.out.below B4)
    | (go_at_call 31; (with_reducible refine (HLB.out _ st4).mono ?_); rintro e w5 ⟨p5, k5, rfl, hi5, hb5⟩; have B5 := below_any B4 hb5 B4.size)
    | (go_at_call 24; (with_reducible refine (HEQ.out _ 1 p5 k5 hi5).mono ?_); rintro e w6 ⟨rfl, hb6⟩; have B6 := below_any B5 hb6 B5.size; have st6 := HST.out.below B6)
    | (go_at_call 16; (with_reducible refine (HPL.out _ st6).mono ?_); rintro e w7 ⟨pn, nn, kn, pe, ke, rfl, hb7⟩; have B7 := below_any B6 hb7 B6.size))
  go_ret
  exact ⟨rfl, below_any HB2.out B7 HB2.out.size⟩
end Go.Proofs.YtcfmenkigolnoaaGreatDoor

/- What Prop tells of a graph that may be (pure). -/
namespace Go.Proofs.YtcfmenkigolnoaaGreatDoor
open Go.RowKit

theorem id_inj {α : Type} {id : α → Int} {l : List α} (h : (l.map id).Nodup) {a b : α} (ha : a ∈ l) (hb : b ∈ l) (e : id a = id b) : a = b := by
  have h1 := find_id h ha
  have h2 := find_id h hb
  rw [e] at h1
  rw [h1] at h2
  exact Option.some.inj h2
theorem prop_of {l ps : List PairL} {r : Val} {ky : ByteArray} (hp : PlainP ps l) (hd : (ps.map fun p => bl p.key).Nodup) (h : (∃ p ∈ l, p.key = ky ∧ r = p.v) ∨ ((∀ p ∈ l, p.key ≠ ky) ∧ r = nullV)) {x : PairL} (hx : x ∈ ps) (hk : x.key = ky) : r = x.v := by
  rcases h with ⟨p, hpl, h1, rfl⟩ | ⟨h1, _⟩
  · rw [key_inj hd (hp.1.mem_iff.1 hpl) hx (by rw [h1, hk])]
  · exact absurd hk (h1 x (hp.1.mem_iff.2 hx))
theorem prop_node {g : GraphL} (hg : GoodG g) {a : NodeL} (ha : a ∈ g.nodes) {x : PairL} (hx : x ∈ a.props) {r : Val} (h : PropIs g 6 a.id x.key r) : r = x.v := by
  obtain ⟨l, hl, hr⟩ := h
  unfold PropsOf at hl
  rw [if_pos rfl] at hl
  rcases hl with ⟨b, hb, e, hp⟩ | ⟨h1, _⟩
  · rw [id_inj hg.dn hb ha e] at hp
    exact prop_of hp (props_keys (hg.nkeys a ha)).2.1 hr hx rfl
  · exact absurd rfl (h1 a ha)
theorem prop_edge {g : GraphL} (hg : GoodG g) {a : EdgeL} (ha : a ∈ g.edges) {x : PairL} (hx : x ∈ a.props) {r : Val} (h : PropIs g 7 a.id x.key r) : r = x.v := by
  obtain ⟨l, hl, hr⟩ := h
  unfold PropsOf at hl
  rw [if_neg (by decide), if_pos rfl] at hl
  rcases hl with ⟨b, hb, e, hp⟩ | ⟨h1, _⟩
  · rw [id_inj hg.de hb ha e] at hp
    exact prop_of hp (props_keys (hg.ekeys a ha).1).2.1 hr hx rfl
  · exact absurd rfl (h1 a ha)
theorem prop_none {g : GraphL} {n : Int} {ky : ByteArray} {r : Val} (h : PropIs g 2 n ky r) : r = nullV := by
  obtain ⟨l, hl, hr⟩ := h
  unfold PropsOf at hl
  rw [if_neg (by decide), if_neg (by decide)] at hl
  subst hl
  rcases hr with ⟨p, hp, _⟩ | ⟨_, h⟩
  · simp at hp
  · exact h
theorem prop_empty {g : GraphL} (hg : GoodG g) {a : NodeL} (ha : a ∈ g.nodes) {r : Val} (h : PropIs g 6 a.id ⟨#[]⟩ r) : r = nullV := by
  obtain ⟨l, hl, hr⟩ := h
  unfold PropsOf at hl
  rw [if_pos rfl] at hl
  rcases hr with ⟨p, hp, hk, _⟩ | ⟨_, h⟩
  · rcases hl with ⟨b, hb, e, hpl⟩ | ⟨_, rfl⟩
    · have := (props_keys (hg.nkeys b hb)).2.2.1 p (hpl.1.mem_iff.1 hp)
      rw [hk] at this
      exact absurd this (by decide)
    · simp at hp
  · exact h
end Go.Proofs.YtcfmenkigolnoaaGreatDoor
