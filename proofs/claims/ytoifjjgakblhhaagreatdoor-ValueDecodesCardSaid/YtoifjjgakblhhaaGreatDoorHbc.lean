/- Texts of one kind, one behind the other: each says ahead of itself what it shows. -/
import Derived.Test.YtoifjjgakblhhaaGreatDoorHbb
import Derived.Test.YtoifjjgakblhhaaGreatDoorHan
import Derived.Deep.LoopGhost
import Derived.Deep.Cut
import Derived.Deep.CutRange
import Derived.Deep.CutBlock
import Derived.Deep.DeepCutAuto
import Derived.Test.YtoifjjgakblhhaaGreatDoorHap
import Derived.Test.YtoifjjgakblhhaaGreatDoorHau
/- Whether lists are not too deep in one another: it answers; so does light. -/
namespace Go.Proofs.YtoifjjgakblhhaaGreatDoor
open Go.RowKit

/-- What deep answers of the list of a value that lies somewhere: one of the two. -/
def DeepAt (v : Val) : Prop := ∀ (W : World) (d : Int) (k : Int) (b : Bool) (n : Int) (t x : ByteArray) (q : List Val) (p : Option Addr) (cap : Nat), v = .mk k b n t x q → q.length ≤ 2097152 → Held W (.slice p q.length cap) q →
  Calls Tryz.prog 36 #[.slice p q.length cap, .int .i64 d] W fun e w' => ∃ r, e = .returned (.bool r) ∧ Below W.heap.size W w'

set_option maxRecDepth 20000 in
set_option maxHeartbeats 1600000 in
theorem deepSome (l : List Val) (g off cap : Nat) (d : Int) (w : World) (hl : Holds w g off l) (hn : l.length ≤ 2097152) (each : ∀ u ∈ l, DeepAt u) :
    Calls Tryz.prog 36 #[.slice (some ⟨g, off, none⟩) l.length cap, .int .i64 d] w fun e w' => ∃ r, e = .returned (.bool r) ∧ Below w.heap.size w w' := by
  obtain ⟨n, hln⟩ : ∃ n, n = l.length := ⟨_, rfl⟩
  rw [← hln] at hn ⊢
  have HL := Lib.hid hln
  have HH := Lib.hid hl
  have HE := Lib.hid each
  clear hl hln each
  go_enter Tryz.func36, Tryz.ntmps36
  go_wp2_with fail
  go_loopg [5] n (fun gg s5 wr => ∃ j : Nat, j + gg = n ∧ s5 = .int .i64 j ∧ Below w.heap.size w wr)
  case atStart => exact ⟨0, by omega, rfl, Below.refl _ _⟩
  case round =>
    obtain ⟨j, hjg, rfl, hb⟩ := hrel
    by_cases hlt : (j : Int) < n
    · have hj1 : j < l.length := by have := HL.out; omega
      obtain ⟨k, b, i, t, x, q, p, cp, o⟩ := (Holds.at_ l off HH.out j hj1).opens
      have o1 := o.below hb
      have c5 := o1.c5
      have hc := fun D => HE.out l[j] (List.getElem_mem hj1) wr D k b i t x q p cp o.e o.hf.hn o1.hl
      have z := hb.size
      clear o o1
      by_cases hd : 100 < d
      · go_wp2_with fail
        go_ret
        first | exact hb | exact ⟨_, rfl, hb⟩ | exact ⟨rfl, hb⟩ | exact ⟨.inl rfl, hb⟩ | exact ⟨.inr rfl, hb⟩
      · go_wp2_with (go_at_call 36; (with_reducible refine (hc _).mono ?_); rintro e w1 ⟨r, rfl, hb1⟩; replace hb := below_any hb hb1 z; clear hb1)
        · go_ret
          first | exact hb | exact ⟨_, rfl, hb⟩ | exact ⟨rfl, hb⟩ | exact ⟨.inl rfl, hb⟩ | exact ⟨.inr rfl, hb⟩
        · go_roundg (gk - 1)
          case measure => omega
          case rel => exact ⟨j + 1, by omega, by go_num, hb⟩
    · go_wp2_with fail
      go_ret
      first | exact hb | exact ⟨_, rfl, hb⟩ | exact ⟨rfl, hb⟩ | exact ⟨.inl rfl, hb⟩ | exact ⟨.inr rfl, hb⟩
theorem deep_list (q : List Val) (p : Option Addr) (cap : Nat) (d : Int) (w : World) (hl : Held w (.slice p q.length cap) q) (hn : q.length ≤ 2097152) (each : ∀ u ∈ q, DeepAt u) :
    Calls Tryz.prog 36 #[.slice p q.length cap, .int .i64 d] w fun e w' => ∃ r, e = .returned (.bool r) ∧ Below w.heap.size w w' := by
  cases q with
  | nil =>
    go_enter Tryz.func36, Tryz.ntmps36
    go_wp2_with fail
    go_loopg [5] 0 (fun gg s5 wr => gg = 0 ∧ s5 = .int .i64 0 ∧ wr = w)
    case atStart => exact ⟨rfl, rfl, rfl⟩
    case round =>
      obtain ⟨_, rfl, rfl⟩ := hrel
      go_wp2_with fail
      go_ret
      first | exact Below.refl _ _ | exact ⟨_, rfl, Below.refl _ _⟩ | exact ⟨.inr rfl, Below.refl _ _⟩
  | cons v r =>
    obtain ⟨g, off, rfl, hh⟩ := hl.form
    exact deepSome (v :: r) g off cap d w hh hn each
mutual
theorem deepVal : (v : Val) → DeepAt v
  | .mk k b n t x q => fun W d k1 b1 n1 t1 x1 q1 p cap e hn hl => by
    cases e
    exact deep_list q p cap d W hl hn (deepEach q)
theorem deepEach : (q : List Val) → ∀ u ∈ q, DeepAt u
  | [], _, h => absurd h (by simp)
  | v :: r, u, h => by
    rcases List.mem_cons.1 h with h | h
    · rw [h]; exact deepVal v
    · exact deepEach r u h
end
set_option maxHeartbeats 1600000 in
theorem lightC (q : List Val) (p : Option Addr) (cap : Nat) (w : World) (hl : Held w (.slice p q.length cap) q) (hn : q.length ≤ 2097152) :
    Calls Tryz.prog 10 #[.slice p q.length cap] w fun e w' => ∃ r, e = .returned (.bool r) ∧ Below w.heap.size w w' := by
  have h1 := (size_list q p cap w hl hn (sizeEach q))
  have h2 := fun W (h : Below w.heap.size w W) => deep_list q p cap 0 W (Held.below q hl h) hn (deepEach q)
  generalize sizeAll q 0 = z at h1
  clear hl hn
  by_cases hz : z ≤ 9000
  · go_enter Tryz.func10, Tryz.ntmps10
    go_wp2_with (first
      | (go_at_call 35; (with_reducible refine h1.mono ?_); rintro e w1 ⟨rfl, m, rfl⟩; have b0 : Below w.heap.size w (w.drewN m) := below_drewN (Below.refl _ _) m)
      | (go_at_call 36; (with_reducible refine (h2 _ b0).mono ?_); rintro e w2 ⟨r, rfl, hb2⟩; replace b0 := below_any b0 hb2 b0.size))
    go_ret
    first | exact b0 | exact ⟨_, rfl, b0⟩ | exact ⟨rfl, b0⟩ | exact ⟨.inl rfl, b0⟩ | exact ⟨.inr rfl, b0⟩
  · go_enter Tryz.func10, Tryz.ntmps10
    go_wp2_with (go_at_call 35; (with_reducible refine h1.mono ?_); rintro e w1 ⟨rfl, m, rfl⟩; have b0 : Below w.heap.size w (w.drewN m) := below_drewN (Below.refl _ _) m)
    go_ret
    first | exact b0 | exact ⟨_, rfl, b0⟩ | exact ⟨rfl, b0⟩ | exact ⟨.inl rfl, b0⟩ | exact ⟨.inr rfl, b0⟩
end Go.Proofs.YtoifjjgakblhhaaGreatDoor

/- What a law's round keeps: its argument's box; the value that has nothing in it. -/
namespace Go.Proofs.YtoifjjgakblhhaaGreatDoor
open Go.RowKit

/-- What the law's round keeps: its argument's box; what lay below. -/
structure LInv (w : World) (L ln : Value) (W : World) : Prop where
  cell : W.cell? ⟨w.heap.size, 0, none⟩ = some L
  cell1 : W.cell? ⟨w.heap.size, 1, none⟩ = some ln
  lt : w.heap.size < W.heap.size
  bel : Below w.heap.size w W
theorem LInv.step {w W W2 : World} {L ln : Value} (h : LInv w L ln W) (k : Below W.heap.size W W2) : LInv w L ln W2 :=
  ⟨(k.cell (p := ⟨w.heap.size, 0, none⟩) h.lt).trans h.cell, (k.cell (p := ⟨w.heap.size, 1, none⟩) h.lt).trans h.cell1, Nat.lt_of_lt_of_le h.lt k.size, below_any h.bel k (Nat.le_of_lt h.lt)⟩
theorem LInv.start (w : World) (L ln : Value) : LInv w L ln (w.alloc (.cells #[L, ln] 24)) :=
  ⟨cell_of (heap_new _ _ rfl) _ rfl, cell_of (heap_new _ _ rfl) _ rfl, by simp, below1 _ _⟩
theorem lFineNull : Fine 0 ⟨#[]⟩ ⟨#[]⟩ ([] : List Val).length := ⟨by decide, by decide, by decide, by decide, by decide⟩
theorem lHeldNull (W : World) : Held W (.slice none ([] : List Val).length 0) [] := by unfold Held; exact ⟨none, 0, rfl⟩

end Go.Proofs.YtoifjjgakblhhaaGreatDoor

/- What the document's own reader makes of bytes: the pure half: where a value may be, both readers agree. -/
namespace Go.Proofs.YtoifjjgakblhhaaGreatDoor

/-- A text and what is left, however long. -/
def rzT (l : List UInt8) : Option (ByteArray × List UInt8) :=
  if 4 ≤ l.length ∧ numW (l.take 4) ≤ (l.drop 4).length then some (⟨((l.drop 4).take (numW (l.take 4))).toArray⟩, (l.drop 4).drop (numW (l.take 4))) else none
/-- What follows a kind, in the document's own reader. -/
def rzK (g : Option (List UInt8 → Option (Val × List UInt8))) (k : Nat) (r : List UInt8) : Option (Val × List UInt8) :=
  if k = 0 then some (.mk 0 false 0 E0 E0 [], r)
  else if k = 1 then (match r with
    | [] => none
    | b :: r' => if b.toNat ≤ 1 then some (.mk 1 (b.toNat == 1) 0 E0 E0 [], r') else none)
  else if k = 2 ∨ k = 6 ∨ k = 7 then (if 8 ≤ r.length then some (.mk k false (toI64 (numW (r.take 8))) E0 E0 [], r.drop 8) else none)
  else if k = 3 ∨ k = 4 ∨ k = 8 ∨ k = 9 then (match rzT r with
    | none => none
    | some (t, r') => some (.mk k false 0 t E0 [], r'))
  else if k = 10 then (match rzT r with
    | none => none
    | some (t, r') => match rzT r' with
      | none => none
      | some (x, r'') => some (.mk k false 0 t x [], r''))
  else if k = 5 then (match g with
    | none => none
    | some g => if 4 ≤ r.length ∧ numW (r.take 4) ≤ 4096 then (match rdL g (numW (r.take 4)) (r.drop 4) with
      | none => none
      | some (q, r') => some (.mk 5 false 0 E0 E0 q, r')) else none)
  else none
/-- A value and what is left, in the document's own reader. -/
def rzV : Nat → List UInt8 → Option (Val × List UInt8)
  | _, [] => none
  | 0, c :: r => rzK none c.toNat r
  | f + 1, c :: r => rzK (some (rzV f)) c.toNat r
/-- What the document's own Decode tells. -/
def dezP (l : List UInt8) : Option Val := match rzV 61 l with
  | some (v, []) => if mayP v 0 then some v else none
  | _ => none
theorem rdT_rzT (l : List UInt8) (t : ByteArray) (r : List UInt8) (h : rdT l = some (t, r)) : rzT l = some (t, r) := by
  unfold rdT at h
  unfold rzT
  split at h
  · rename_i h1
    rw [if_pos ⟨h1.1, h1.2.2⟩]
    exact h
  · cases h
theorem rzT_rdT (l : List UInt8) (hl : l.length ≤ 1048576) : rzT l = rdT l := by
  unfold rzT rdT
  by_cases h1 : 4 ≤ l.length ∧ numW (l.take 4) ≤ (l.drop 4).length
  · have h2 : (l.drop 4).length ≤ 1048576 := by rw [List.length_drop]; omega
    rw [if_pos h1, if_pos ⟨h1.1, by omega, h1.2⟩]
  · rw [if_neg h1, if_neg (fun h => h1 ⟨h.1, h.2.2⟩)]
theorem rdT_left (l : List UInt8) (t : ByteArray) (r : List UInt8) (h : rdT l = some (t, r)) : r.length ≤ l.length := by
  unfold rdT at h
  split at h
  · simp only [Option.some.injEq, Prod.mk.injEq] at h
    rw [← h.2, List.length_drop, List.length_drop]
    omega
  · cases h
/-- Two readers of elements that agree where what they read may be. -/
def Agree (d : Nat) (g h : List UInt8 → Option (Val × List UInt8)) : Prop :=
  (∀ l v r, l.length ≤ 1048576 → g l = some (v, r) → mayP v d = true → h l = some (v, r)) ∧ (∀ l v r, l.length ≤ 1048576 → h l = some (v, r) → mayP v d = true → g l = some (v, r)) ∧ (∀ l v r, g l = some (v, r) → r.length ≤ l.length) ∧ (∀ l v r, h l = some (v, r) → r.length ≤ l.length)
theorem rdL_agree {d : Nat} {g h : List UInt8 → Option (Val × List UInt8)} (ha : ∀ l v r, l.length ≤ 1048576 → g l = some (v, r) → mayP v d = true → h l = some (v, r)) (hb : ∀ l v r, g l = some (v, r) → r.length ≤ l.length) :
    (n : Nat) → ∀ (l : List UInt8) (q : List Val) (r : List UInt8), l.length ≤ 1048576 → rdL g n l = some (q, r) → eachP q d = true → rdL h n l = some (q, r)
  | 0, l, q, r, _, e, _ => e
  | n + 1, l, q, r, hl, e, hm => by
    unfold rdL at e ⊢
    cases hv : g l with
    | none => rw [hv] at e; cases e
    | some p =>
      obtain ⟨v, l'⟩ := p
      rw [hv] at e
      simp only at e
      cases hq : rdL g n l' with
      | none => rw [hq] at e; cases e
      | some p2 =>
        obtain ⟨q', l''⟩ := p2
        rw [hq] at e
        simp only [Option.some.injEq, Prod.mk.injEq] at e
        obtain ⟨rfl, rfl⟩ := e
        unfold eachP at hm
        rw [Bool.and_eq_true] at hm
        rw [ha l v l' hl hv hm.1]
        simp only
        rw [rdL_agree ha hb n l' q' l'' (Nat.le_trans (hb l v l' hv) hl) hq hm.2]
theorem rdL_left {g : List UInt8 → Option (Val × List UInt8)} (hb : ∀ l v r, g l = some (v, r) → r.length ≤ l.length) : (n : Nat) → ∀ (l : List UInt8) (q : List Val) (r : List UInt8), rdL g n l = some (q, r) → r.length ≤ l.length
  | 0, l, q, r, e => by
    simp only [rdL, Option.some.injEq, Prod.mk.injEq] at e
    rw [← e.2]
    exact Nat.le_refl _
  | n + 1, l, q, r, e => by
    unfold rdL at e
    cases hv : g l with
    | none => rw [hv] at e; cases e
    | some p =>
      obtain ⟨v, l'⟩ := p
      rw [hv] at e
      simp only at e
      cases hq : rdL g n l' with
      | none => rw [hq] at e; cases e
      | some p2 =>
        obtain ⟨q', l''⟩ := p2
        rw [hq] at e
        simp only [Option.some.injEq, Prod.mk.injEq] at e
        rw [← e.2]
        exact Nat.le_trans (rdL_left hb n l' q' l'' hq) (hb l v l' hv)
end Go.Proofs.YtoifjjgakblhhaaGreatDoor

/- Both readers agree where the value may be. -/
namespace Go.Proofs.YtoifjjgakblhhaaGreatDoor

theorem may_list (q : List Val) (d : Nat) (h : mayP (.mk 5 false 0 E0 E0 q) d = true) : d + 1 ≤ 60 ∧ eachP q (d + 1) = true := by
  unfold mayP fitsP at h
  rw [if_neg (by decide), if_neg (by decide), if_neg (by decide), if_neg (by decide), if_neg (by decide), if_pos rfl] at h
  rw [Bool.and_eq_true, Bool.and_eq_true, Bool.and_eq_true] at h
  exact ⟨of_decide_eq_true h.1.1.2, h.1.2⟩
theorem may_kind (k : Int) (b : Bool) (n : Int) (t x : ByteArray) (q : List Val) (d : Nat) (h0 : ¬k = 0) (h1 : ¬k = 1) (h2 : ¬k = 2) (h3 : ¬k = 3) (h4 : ¬k = 4) (h5 : ¬k = 5) (h6 : ¬(k = 6 ∨ k = 7)) (h8 : ¬k = 8) (h9 : ¬k = 9) (h10 : ¬k = 10) : mayP (.mk k b n t x q) d = false := by
  unfold mayP fitsP
  rw [if_neg h0, if_neg h1, if_neg h2, if_neg h3, if_neg h4, if_neg h5, if_neg h6, if_neg h8, if_neg h9, if_neg h10]
theorem k_fwd (d : Nat) (g h : Option (List UInt8 → Option (Val × List UInt8))) (hgh : ∀ g', g = some g' → ∃ h', h = some h' ∧ (∀ l v r, l.length ≤ 1048576 → g' l = some (v, r) → mayP v (d + 1) = true → h' l = some (v, r)) ∧ (∀ l v r, g' l = some (v, r) → r.length ≤ l.length))
    (k : Nat) (r : List UInt8) (hr : r.length ≤ 1048576) (v : Val) (s : List UInt8) (e : rdK g k r = some (v, s)) (hm : mayP v d = true) : rzK h k r = some (v, s) := by
  unfold rzK
  by_cases h0 : k = 0
  · subst h0
    rw [if_pos rfl]
    exact e
  rw [if_neg h0]
  unfold rdK at e
  by_cases h1 : k = 1
  · rw [if_pos h1] at e ⊢
    exact e
  rw [if_neg h1] at e ⊢
  by_cases h2 : k = 2 ∨ k = 6 ∨ k = 7
  · rw [if_pos h2] at e ⊢
    exact e
  rw [if_neg h2] at e ⊢
  by_cases h3 : k = 3 ∨ k = 4 ∨ k = 8 ∨ k = 9
  · rw [if_pos h3] at e ⊢
    rw [rzT_rdT r hr]
    exact e
  rw [if_neg h3] at e ⊢
  by_cases h10 : k = 10
  · rw [if_pos h10] at e ⊢
    rw [rzT_rdT r hr]
    cases ht : rdT r with
    | none => rw [ht] at e; cases e
    | some p =>
      obtain ⟨t, r'⟩ := p
      rw [ht] at e
      simp only at e ⊢
      rw [rzT_rdT r' (Nat.le_trans (rdT_left r t r' ht) hr)]
      exact e
  rw [if_neg h10] at e ⊢
  by_cases h5 : k = 5
  · rw [if_pos h5] at e ⊢
    cases g with
    | none => cases e
    | some g' =>
      obtain ⟨h', rfl, ha, hb⟩ := hgh g' rfl
      simp only at e ⊢
      split at e
      · rename_i h4
        rw [if_pos h4]
        cases hq : rdL g' (numW (r.take 4)) (r.drop 4) with
        | none => rw [hq] at e; cases e
        | some p =>
          obtain ⟨q, r'⟩ := p
          rw [hq] at e
          simp only [Option.some.injEq, Prod.mk.injEq] at e
          obtain ⟨rfl, rfl⟩ := e
          rw [rdL_agree ha hb _ _ q r' (by rw [List.length_drop]; omega) hq (may_list q d hm).2]
      · cases e
  rw [if_neg h5] at e ⊢
  simp only [Option.some.injEq, Prod.mk.injEq] at e
  obtain ⟨rfl, rfl⟩ := e
  rw [may_kind _ _ _ _ _ _ _ (by omega) (by omega) (by omega) (by omega) (by omega) (by omega) (by omega) (by omega) (by omega) (by omega)] at hm
  cases hm
theorem k_bwd (d : Nat) (g h : Option (List UInt8 → Option (Val × List UInt8))) (hgh : ∀ h', h = some h' → d + 1 ≤ 60 → ∃ g', g = some g' ∧ (∀ l v r, l.length ≤ 1048576 → h' l = some (v, r) → mayP v (d + 1) = true → g' l = some (v, r)) ∧ (∀ l v r, h' l = some (v, r) → r.length ≤ l.length))
    (k : Nat) (r : List UInt8) (hr : r.length ≤ 1048576) (v : Val) (s : List UInt8) (e : rzK h k r = some (v, s)) (hm : mayP v d = true) : rdK g k r = some (v, s) := by
  unfold rzK at e
  by_cases h0 : k = 0
  · subst h0
    rw [if_pos rfl] at e
    exact e
  rw [if_neg h0] at e
  unfold rdK
  by_cases h1 : k = 1
  · rw [if_pos h1] at e ⊢
    exact e
  rw [if_neg h1] at e ⊢
  by_cases h2 : k = 2 ∨ k = 6 ∨ k = 7
  · rw [if_pos h2] at e ⊢
    exact e
  rw [if_neg h2] at e ⊢
  by_cases h3 : k = 3 ∨ k = 4 ∨ k = 8 ∨ k = 9
  · rw [if_pos h3] at e ⊢
    rw [rzT_rdT r hr] at e
    exact e
  rw [if_neg h3] at e ⊢
  by_cases h10 : k = 10
  · rw [if_pos h10] at e ⊢
    rw [rzT_rdT r hr] at e
    cases ht : rdT r with
    | none => rw [ht] at e; cases e
    | some p =>
      obtain ⟨t, r'⟩ := p
      rw [ht] at e
      simp only at e ⊢
      rw [rzT_rdT r' (Nat.le_trans (rdT_left r t r' ht) hr)] at e
      exact e
  rw [if_neg h10] at e ⊢
  by_cases h5 : k = 5
  · rw [if_pos h5] at e ⊢
    cases h with
    | none => cases e
    | some h' =>
      simp only at e
      split at e
      · rename_i h4
        cases hq : rdL h' (numW (r.take 4)) (r.drop 4) with
        | none => rw [hq] at e; cases e
        | some p =>
          obtain ⟨q, r'⟩ := p
          rw [hq] at e
          simp only [Option.some.injEq, Prod.mk.injEq] at e
          obtain ⟨rfl, rfl⟩ := e
          obtain ⟨hd, he⟩ := may_list q d hm
          obtain ⟨g', rfl, ha, hb⟩ := hgh h' rfl hd
          simp only
          rw [if_pos h4, rdL_agree ha hb _ _ q r' (by rw [List.length_drop]; omega) hq he]
      · cases e
  rw [if_neg h5] at e
  cases e
theorem k_left (g : Option (List UInt8 → Option (Val × List UInt8))) (hb : ∀ g', g = some g' → ∀ l v r, g' l = some (v, r) → r.length ≤ l.length) (k : Nat) (r : List UInt8) (v : Val) (s : List UInt8) (e : rdK g k r = some (v, s)) : s.length ≤ r.length := by
  unfold rdK at e
  split at e
  · cases r with
    | nil => cases e
    | cons b r' =>
      simp only at e
      split at e
      · simp only [Option.some.injEq, Prod.mk.injEq] at e
        rw [← e.2]; simp
      · cases e
  split at e
  · split at e
    · simp only [Option.some.injEq, Prod.mk.injEq] at e
      rw [← e.2, List.length_drop]; omega
    · cases e
  split at e
  · cases ht : rdT r with
    | none => rw [ht] at e; cases e
    | some p =>
      obtain ⟨t, r'⟩ := p
      rw [ht] at e
      simp only [Option.some.injEq, Prod.mk.injEq] at e
      rw [← e.2]
      exact rdT_left r t r' ht
  split at e
  · cases ht : rdT r with
    | none => rw [ht] at e; cases e
    | some p =>
      obtain ⟨t, r'⟩ := p
      rw [ht] at e
      simp only at e
      cases hx : rdT r' with
      | none => rw [hx] at e; cases e
      | some p2 =>
        obtain ⟨x, r''⟩ := p2
        rw [hx] at e
        simp only [Option.some.injEq, Prod.mk.injEq] at e
        rw [← e.2]
        exact Nat.le_trans (rdT_left r' x r'' hx) (rdT_left r t r' ht)
  split at e
  · cases g with
    | none => cases e
    | some g' =>
      simp only at e
      split at e
      · cases hq : rdL g' (numW (r.take 4)) (r.drop 4) with
        | none => rw [hq] at e; cases e
        | some p =>
          obtain ⟨q, r'⟩ := p
          rw [hq] at e
          simp only [Option.some.injEq, Prod.mk.injEq] at e
          rw [← e.2]
          have := rdL_left (hb g' rfl) _ _ q r' hq
          rw [List.length_drop] at this
          omega
      · cases e
  · simp only [Option.some.injEq, Prod.mk.injEq] at e
    rw [← e.2]
    exact Nat.le_refl _
theorem rzT_left (l : List UInt8) (t : ByteArray) (r : List UInt8) (h : rzT l = some (t, r)) : r.length ≤ l.length := by
  unfold rzT at h
  split at h
  · simp only [Option.some.injEq, Prod.mk.injEq] at h
    rw [← h.2, List.length_drop, List.length_drop]
    omega
  · cases h
theorem kz_left (g : Option (List UInt8 → Option (Val × List UInt8))) (hb : ∀ g', g = some g' → ∀ l v r, g' l = some (v, r) → r.length ≤ l.length) (k : Nat) (r : List UInt8) (v : Val) (s : List UInt8) (e : rzK g k r = some (v, s)) : s.length ≤ r.length := by
  unfold rzK at e
  split at e
  · simp only [Option.some.injEq, Prod.mk.injEq] at e
    rw [← e.2]
    exact Nat.le_refl _
  split at e
  · cases r with
    | nil => cases e
    | cons b r' =>
      simp only at e
      split at e
      · simp only [Option.some.injEq, Prod.mk.injEq] at e
        rw [← e.2]; simp
      · cases e
  split at e
  · split at e
    · simp only [Option.some.injEq, Prod.mk.injEq] at e
      rw [← e.2, List.length_drop]; omega
    · cases e
  split at e
  · cases ht : rzT r with
    | none => rw [ht] at e; cases e
    | some p =>
      obtain ⟨t, r'⟩ := p
      rw [ht] at e
      simp only [Option.some.injEq, Prod.mk.injEq] at e
      rw [← e.2]
      exact rzT_left r t r' ht
  split at e
  · cases ht : rzT r with
    | none => rw [ht] at e; cases e
    | some p =>
      obtain ⟨t, r'⟩ := p
      rw [ht] at e
      simp only at e
      cases hx : rzT r' with
      | none => rw [hx] at e; cases e
      | some p2 =>
        obtain ⟨x, r''⟩ := p2
        rw [hx] at e
        simp only [Option.some.injEq, Prod.mk.injEq] at e
        rw [← e.2]
        exact Nat.le_trans (rzT_left r' x r'' hx) (rzT_left r t r' ht)
  split at e
  · cases g with
    | none => cases e
    | some g' =>
      simp only at e
      split at e
      · cases hq : rdL g' (numW (r.take 4)) (r.drop 4) with
        | none => rw [hq] at e; cases e
        | some p =>
          obtain ⟨q, r'⟩ := p
          rw [hq] at e
          simp only [Option.some.injEq, Prod.mk.injEq] at e
          rw [← e.2]
          have := rdL_left (hb g' rfl) _ _ q r' hq
          rw [List.length_drop] at this
          omega
      · cases e
  · cases e
theorem rdV_left : (f : Nat) → ∀ l v r, rdV f l = some (v, r) → r.length ≤ l.length
  | 0, l, v, r, e => by
    cases l with
    | nil => cases e
    | cons c s =>
      have := k_left none (fun _ h => by cases h) c.toNat s v r e
      simp only [List.length_cons]
      omega
  | f + 1, l, v, r, e => by
    cases l with
    | nil => cases e
    | cons c s =>
      have := k_left (some (rdV f)) (fun g h => by cases h; exact rdV_left f) c.toNat s v r e
      simp only [List.length_cons]
      omega
theorem rzV_left : (f : Nat) → ∀ l v r, rzV f l = some (v, r) → r.length ≤ l.length
  | 0, l, v, r, e => by
    cases l with
    | nil => cases e
    | cons c s =>
      have := kz_left none (fun _ h => by cases h) c.toNat s v r e
      simp only [List.length_cons]
      omega
  | f + 1, l, v, r, e => by
    cases l with
    | nil => cases e
    | cons c s =>
      have := kz_left (some (rzV f)) (fun g h => by cases h; exact rzV_left f) c.toNat s v r e
      simp only [List.length_cons]
      omega
theorem agree : (f d : Nat) → d + f = 60 → (∀ l v r, l.length ≤ 1048576 → rdV f l = some (v, r) → mayP v d = true → rzV (f + 1) l = some (v, r)) ∧ (∀ l v r, l.length ≤ 1048576 → rzV (f + 1) l = some (v, r) → mayP v d = true → rdV f l = some (v, r))
  | 0, d, hd => by
    refine ⟨fun l v r hl e hm => ?_, fun l v r hl e hm => ?_⟩
    · cases l with
      | nil => cases e
      | cons c s =>
        simp only [List.length_cons] at hl
        exact k_fwd d none (some (rzV 0)) (fun g h => by cases h) c.toNat s (by omega) v r e hm
    · cases l with
      | nil => cases e
      | cons c s =>
        simp only [List.length_cons] at hl
        exact k_bwd d none (some (rzV 0)) (fun h' _ hd2 => by omega) c.toNat s (by omega) v r e hm
  | f + 1, d, hd => by
    obtain ⟨i1, i2⟩ := agree f (d + 1) (by omega)
    refine ⟨fun l v r hl e hm => ?_, fun l v r hl e hm => ?_⟩
    · cases l with
      | nil => cases e
      | cons c s =>
        simp only [List.length_cons] at hl
        exact k_fwd d (some (rdV f)) (some (rzV (f + 1))) (fun g h => by cases h; exact ⟨_, rfl, i1, rdV_left f⟩) c.toNat s (by omega) v r e hm
    · cases l with
      | nil => cases e
      | cons c s =>
        simp only [List.length_cons] at hl
        exact k_bwd d (some (rdV f)) (some (rzV (f + 1))) (fun h' hh _ => by cases hh; exact ⟨_, rfl, i2, rzV_left (f + 1)⟩) c.toNat s (by omega) v r e hm
/-- Both decode alike. -/
theorem dec_dez (l : List UInt8) (hl : l.length ≤ 1048576) : dezP l = decP l := by
  obtain ⟨i1, i2⟩ := agree 60 0 rfl
  unfold dezP decP
  cases hz : rzV 61 l with
  | none =>
    simp only
    cases hd : rdV 60 l with
    | none => rfl
    | some p =>
      obtain ⟨v, r⟩ := p
      cases r with
      | cons c s => rfl
      | nil =>
        simp only
        by_cases hm : mayP v 0 = true
        · rw [i1 l v [] hl hd hm] at hz
          cases hz
        · rw [if_neg hm]
  | some p =>
    obtain ⟨v, r⟩ := p
    by_cases hm : mayP v 0 = true
    · rw [i2 l v r hl hz hm]
      cases r <;> rfl
    · have hm0 : mayP v 0 = false := by simpa using hm
      cases hd : rdV 60 l with
      | none =>
        cases r with
        | cons c s => rfl
        | nil => simp only; rw [if_neg hm]
      | some p2 =>
        obtain ⟨u, s⟩ := p2
        have hu : s = [] → mayP u 0 = true → False := fun h1 h2 => by
          have h3 := i1 l u s hl hd h2
          rw [hz] at h3
          simp only [Option.some.injEq, Prod.mk.injEq] at h3
          rw [h3.1] at hm
          exact hm h2
        cases s with
        | cons c s =>
          cases r with
          | cons c s => rfl
          | nil => simp only; rw [if_neg hm]
        | nil =>
          have hu2 : ¬mayP u 0 = true := fun h => hu rfl h
          cases r with
          | cons c s => simp only; rw [if_neg hu2]
          | nil => simp only; rw [if_neg hm, if_neg hu2]
end Go.Proofs.YtoifjjgakblhhaaGreatDoor

/- The document's own reader: take, num, text. -/
namespace Go.Proofs.YtoifjjgakblhhaaGreatDoor
open Go.RowKit

/-- The document's own reader: its block, the bytes that are left, whether it is bad. -/
def Rz (w : World) (R : Nat) (l : List UInt8) (bad : Bool) : Prop := ∃ p cap, w.heap[R]? = some (.cells #[.slice p l.length cap, .bool bad] 76) ∧ l.length ≤ cap ∧ cap ≤ maxLen ∧
  (l = [] ∨ ∃ g off, p = some ⟨g, off, none⟩ ∧ g < R ∧ ∀ j c, l[j]? = some c → w.cell? ⟨g, off + j, none⟩ = some (.int .u8 c.toNat))
theorem Rz.lt {w : World} {R : Nat} {l : List UInt8} {bad : Bool} (h : Rz w R l bad) : R < w.heap.size := by
  obtain ⟨p, cap, h, _⟩ := h
  exact lt_of_heap h
theorem Rz.below {w w' : World} {R : Nat} {l : List UInt8} {bad : Bool} (h : Rz w R l bad) (b : Below w.heap.size w w') : Rz w' R l bad := by
  obtain ⟨p, cap, h1, h2, h3, h4⟩ := h
  refine ⟨p, cap, (b.block R (lt_of_heap h1)).trans h1, h2, h3, ?_⟩
  rcases h4 with h4 | ⟨g, off, e, hne, hc⟩
  · exact .inl h4
  · exact .inr ⟨g, off, e, hne, fun j c hj => (b.cell (p := ⟨g, off + j, none⟩) (World.block_lt_of_cell? w _ (hc j c hj))).trans (hc j c hj)⟩
/-- The reader's mark was set. -/
theorem Rz.mark {w w' : World} {R : Nat} {l : List UInt8} {bad : Bool} (h : Rz w R l bad) (o : Only R w w') (b' : Bool) (hw : ∀ p cap, w.heap[R]? = some (.cells #[.slice p l.length cap, .bool bad] 76) → w'.heap[R]? = some (.cells #[.slice p l.length cap, .bool b'] 76)) : Rz w' R l b' := by
  obtain ⟨p, cap, h1, h2, h3, h4⟩ := h
  refine ⟨p, cap, hw p cap h1, h2, h3, ?_⟩
  rcases h4 with h4 | ⟨g, off, e, hne, hc⟩
  · exact .inl h4
  · exact .inr ⟨g, off, e, hne, fun j c hj => (World.cell?_of_block (w := w) (a := ⟨g, off + j, none⟩) (o.block g (World.block_lt_of_cell? w _ (hc j c hj)) (by omega))).trans (hc j c hj)⟩
theorem Rz.set1 {w : World} {R : Nat} {l : List UInt8} {bad : Bool} (h : Rz w R l bad) (b' : Bool) : Rz (w.setCell ⟨R, 1, none⟩ (.bool b')) R l b' :=
  h.mark ((Only.refl R w).setCell 1 none _) b' (fun _ _ h1 => heap_set h1 1 (.bool b'))
/-- What take tells where it can't. -/
def TakeBad (R : Nat) (l : List UInt8) (w : World) (e : Ending) (w' : World) : Prop := ∃ g, e = .returned (.slice (some ⟨g, 0, none⟩) 0 0) ∧ Rz w' R l true ∧ Only R w w'
set_option maxRecDepth 20000 in
set_option maxHeartbeats 3200000 in
theorem takeZNo (R : Nat) (l : List UInt8) (bad : Bool) (n : Int) (w : World) (h : Rz w R l bad) (hn : bad = true ∨ n < 0 ∨ (l.length : Int) < n) (hl : l.length ≤ 1000000000) :
    Calls Tryz.prog 146 #[.pointer (some ⟨R, 0, none⟩), .int .i64 n] w (TakeBad R l w) := by
  obtain ⟨i0, hi, hz0, hz1, hz2⟩ := info_parts info5
  obtain ⟨p, cap, h1, h2, h3, h4⟩ := h
  have c0 : w.cell? ⟨R, 0, none⟩ = some (.slice p l.length cap) := cell_of h1 _ rfl
  have c1 : w.cell? ⟨R, 1, none⟩ = some (.bool bad) := cell_of h1 _ rfl
  have f1 : w.frozen? ⟨R, 1, none⟩ = false := free_of h1 _
  have HR : Hid (Rz (w.setCell ⟨R, 1, none⟩ (.bool true)) R l true) := Lib.hid (Rz.set1 (bad := bad) ⟨p, cap, h1, h2, h3, h4⟩ true)
  have HO : Hid (Only R w (w.setCell ⟨R, 1, none⟩ (.bool true))) := Lib.hid ((Only.refl R w).setCell 1 none _)
  clear h1 h2 h3 h4
  cases bad with
  | true =>
    clear hn
    go_enter Tryz.func146, Tryz.ntmps146
    go_wp2_with (refine wpList_make_own _ rfl (.const (.int .i64 0)) (.const (.int .i64 0)) 40 rfl 0 5 i0 (.int .u8 0) 1 Tryz.underlying40 hi hz0 hz1 .i64 .i64 0 0 rfl rfl rfl (by simp) (Nat.zero_le _) (Nat.zero_le _) ?_)
    intro w2 _ hgrow
    have hb2 := (Below.refl (w.setCell ⟨R, 1, none⟩ (.bool true)).heap.size (w.setCell ⟨R, 1, none⟩ (.bool true))).grown hgrow (Nat.le_refl _) (fun _ h => by cases h)
    go_wp2_with fail
    go_ret
    exact ⟨_, rfl, HR.out.below hb2, HO.out.trans (Only.of_below hb2)⟩
  | false =>
    by_cases hn0 : n < 0
    · clear hn
      go_enter Tryz.func146, Tryz.ntmps146
      go_wp2_with (refine wpList_make_own _ rfl (.const (.int .i64 0)) (.const (.int .i64 0)) 40 rfl 0 5 i0 (.int .u8 0) 1 Tryz.underlying40 hi hz0 hz1 .i64 .i64 0 0 rfl rfl rfl (by simp) (Nat.zero_le _) (Nat.zero_le _) ?_)
      intro w2 _ hgrow
      have hb2 := (Below.refl (w.setCell ⟨R, 1, none⟩ (.bool true)).heap.size (w.setCell ⟨R, 1, none⟩ (.bool true))).grown hgrow (Nat.le_refl _) (fun _ h => by cases h)
      go_wp2_with fail
      go_ret
      exact ⟨_, rfl, HR.out.below hb2, HO.out.trans (Only.of_below hb2)⟩
    · have hlt : (l.length : Int) < n := by
        rcases hn with hn | hn | hn
        · cases hn
        · exact absurd hn hn0
        · exact hn
      clear hn
      go_enter Tryz.func146, Tryz.ntmps146
      go_wp2_with (refine wpList_make_own _ rfl (.const (.int .i64 0)) (.const (.int .i64 0)) 40 rfl 0 5 i0 (.int .u8 0) 1 Tryz.underlying40 hi hz0 hz1 .i64 .i64 0 0 rfl rfl rfl (by simp) (Nat.zero_le _) (Nat.zero_le _) ?_)
      intro w2 _ hgrow
      have hb2 := (Below.refl (w.setCell ⟨R, 1, none⟩ (.bool true)).heap.size (w.setCell ⟨R, 1, none⟩ (.bool true))).grown hgrow (Nat.le_refl _) (fun _ h => by cases h)
      go_wp2_with fail
      go_ret
      exact ⟨_, rfl, HR.out.below hb2, HO.out.trans (Only.of_below hb2)⟩
/-- What take tells where there is enough. -/
def TakeGood (R : Nat) (l : List UInt8) (n : Nat) (w : World) (e : Ending) (w' : World) : Prop := ∃ T, e = .returned T ∧ Bts w' T (l.take n) ∧ Rz w' R (l.drop n) false ∧ Only R w w'
set_option maxRecDepth 20000 in
set_option maxHeartbeats 3200000 in
theorem takeZYes (R : Nat) (l : List UInt8) (n : Nat) (w : World) (h : Rz w R l false) (hn : n ≤ l.length) (hl : l.length ≤ 1000000000) :
    Calls Tryz.prog 146 #[.pointer (some ⟨R, 0, none⟩), .int .i64 n] w (TakeGood R l n w) := by
  obtain ⟨p, cap, h1, h2, h3, h4⟩ := h
  have c0 : w.cell? ⟨R, 0, none⟩ = some (.slice p l.length cap) := cell_of h1 _ rfl
  have c1 : w.cell? ⟨R, 1, none⟩ = some (.bool false) := cell_of h1 _ rfl
  have f0 : w.frozen? ⟨R, 0, none⟩ = false := free_of h1 _
  have hlt : (n : Int) ≤ l.length := by omega
  have hlt2 : ¬(l.length : Int) < n := by omega
  have hlt3 : ¬l.length < n := by omega
  have hnc : n ≤ cap := by omega
  have hcm : cap ≤ 9223372036854775807 := by unfold maxLen at h3; omega
  have et : (l.take n).length = n := by rw [List.length_take]; omega
  have ed : (l.drop n).length = l.length - n := List.length_drop
  rcases h4 with rfl | ⟨g, off, rfl, hne, hc⟩
  · obtain rfl : n = 0 := by simpa using hn
    have H1 := Lib.hid h1
    clear h1
    cases p with
    | none =>
      go_enter Tryz.func146, Tryz.ntmps146
      go_wp2_with fail
      all_goals go_ret
      all_goals exact ⟨_, rfl, ⟨none, _, rfl, .inl rfl⟩, ⟨none, _, heap_set H1.out 0 _, Nat.zero_le _, by omega, .inl rfl⟩, (Only.refl R w).setCell 0 none _⟩
    | some a =>
      by_cases hc0 : cap = 0
      · subst hc0
        go_enter Tryz.func146, Tryz.ntmps146
        go_wp2_with fail
        go_ret
        exact ⟨_, rfl, ⟨_, _, rfl, .inl rfl⟩, ⟨_, _, heap_set H1.out 0 _, Nat.zero_le _, by omega, .inl rfl⟩, (Only.refl R w).setCell 0 none _⟩
      · go_enter Tryz.func146, Tryz.ntmps146
        go_wp2_with fail
        go_ret
        exact ⟨_, rfl, ⟨_, _, rfl, .inl rfl⟩, ⟨_, _, heap_set H1.out 0 _, Nat.zero_le _, by omega, .inl rfl⟩, (Only.refl R w).setCell 0 none _⟩
  · have H1 := Lib.hid h1
    have hb : ∀ W, Only R w W → ∀ j c, l[j]? = some c → W.cell? ⟨g, off + j, none⟩ = some (.int .u8 c.toNat) := fun W o j c hj =>
      (World.cell?_of_block (w := w) (a := ⟨g, off + j, none⟩) (o.block g (World.block_lt_of_cell? w _ (hc j c hj)) (by omega))).trans (hc j c hj)
    have HB := Lib.hid hb
    clear h1 hc hb
    by_cases hcn : cap = n
    · subst hcn
      have hl2 : l.length = cap := by omega
      have HL2 := Lib.hid hl2
      go_enter Tryz.func146, Tryz.ntmps146
      go_wp2_with fail
      go_ret
      refine ⟨_, rfl, ⟨some ⟨g, off, none⟩, cap, by rw [et]; rfl, .inr ⟨g, off, rfl, fun j c hj => HB.out _ ((Only.refl R w).setCell 0 none _) j c (by rw [List.getElem?_take] at hj; split at hj; exact hj; cases hj)⟩⟩, ?_, (Only.refl R w).setCell 0 none _⟩
      refine ⟨_, 0, by rw [ed, HL2.out]; simpa using heap_set H1.out 0 _, by rw [ed]; omega, by omega, .inr ⟨g, off, rfl, hne, fun j c hj => ?_⟩⟩
      have := (List.getElem?_eq_some_iff.1 hj).1
      omega
    · go_enter Tryz.func146, Tryz.ntmps146
      go_wp2_with fail
      go_ret
      refine ⟨_, rfl, ⟨some ⟨g, off, none⟩, cap, by rw [et]; rfl, .inr ⟨g, off, rfl, fun j c hj => HB.out _ ((Only.refl R w).setCell 0 none _) j c (by rw [List.getElem?_take] at hj; split at hj; exact hj; cases hj)⟩⟩, ?_, (Only.refl R w).setCell 0 none _⟩
      refine ⟨_, cap - n, by rw [ed]; exact heap_set H1.out 0 _, by rw [ed]; omega, by omega, .inr ⟨g, off + n, rfl, hne, fun j c hj => ?_⟩⟩
      rw [List.getElem?_drop] at hj
      rw [Nat.add_assoc]
      exact HB.out _ ((Only.refl R w).setCell 0 none _) (n + j) c hj
end Go.Proofs.YtoifjjgakblhhaaGreatDoor

/- The document's own reader: num, text. -/
namespace Go.Proofs.YtoifjjgakblhhaaGreatDoor
open Go.RowKit

theorem toI64_small (x : Nat) (h : x < 9223372036854775808) : toI64 x = x := by
  unfold toI64
  rw [if_pos h]
theorem orI64 (x y : Nat) (hx : x < 72057594037927936) (hy : y < 256) : bits BinOp.or IntKind.i64 (wrap64 ((x : Int) * 256)) (y : Int) = toI64 (x * 256 + y) := by
  have h1 : (BitVec.ofInt 64 (wrap64 ((x : Int) * 256))).toNat = x * 256 := by
    rw [BitVec.toNat_ofInt]
    unfold wrap64
    omega
  have h2 : (BitVec.ofInt 64 (y : Int)).toNat = y := by
    rw [BitVec.toNat_ofInt]
    omega
  have h := Nat.two_pow_add_eq_or_of_lt (i := 8) (b := y) (by omega) x
  rw [show 2 ^ 8 * x = x * 256 by omega] at h
  show IntKind.i64.wrap (((BitVec.ofInt 64 (wrap64 ((x : Int) * 256)) ||| BitVec.ofInt 64 (y : Int)).toNat : Nat) : Int) = _
  rw [BitVec.toNat_or, h1, h2, ← h, wrap_toI64 _ (by omega)]
/-- What num tells. -/
def NumPost (R : Nat) (l : List UInt8) (bad : Bool) (k : Nat) (w : World) (e : Ending) (w' : World) : Prop :=
  ((bad = true ∨ l.length < k) ∧ e = .returned (.int .i64 0) ∧ Rz w' R l true ∧ Only R w w') ∨ ((bad = false ∧ k ≤ l.length) ∧ e = .returned (.int .i64 (toI64 (numW (l.take k)))) ∧ Rz w' R (l.drop k) false ∧ Only R w w')
set_option maxRecDepth 20000 in
set_option maxHeartbeats 3200000 in
theorem numAt (R : Nat) (l : List UInt8) (bad : Bool) (k : Nat) (w : World) (h : Rz w R l bad) (hk : k ≤ 8) (hl : l.length ≤ 1000000000) :
    Calls Tryz.prog 114 #[.pointer (some ⟨R, 0, none⟩), .int .i64 k] w (NumPost R l bad k w) := by
  by_cases hno : bad = true ∨ l.length < k
  · have ht := takeZNo R l bad k w h (by rcases hno with h | h; exact .inl h; exact .inr (.inr (by omega))) hl
    unfold TakeBad at ht
    have HNO := Lib.hid hno
    clear hno
    go_enter Tryz.func114, Tryz.ntmps114
    go_wp2_with (go_at_call 146; (with_reducible refine ht.mono ?_); rintro e w1 ⟨g, rfl, hR, hO⟩)
    go_loopg [6, 7] 0 (fun gg s6 s7 wr => gg = 0 ∧ s6 = .int .i64 0 ∧ s7 = .int .i64 0 ∧ wr = w1)
    case atStart => exact ⟨rfl, rfl, rfl, rfl⟩
    case round =>
      obtain ⟨_, rfl, rfl, rfl⟩ := hrel
      go_wp2_with fail
      go_ret
      exact .inl ⟨HNO.out, rfl, hR, hO⟩
  · have hb0 : bad = false := by cases bad; rfl; exact absurd (.inl rfl) hno
    have hkl : k ≤ l.length := by omega
    subst hb0
    have ht := takeZYes R l k w h hkl hl
    have et : (l.take k).length = k := by rw [List.length_take]; omega
    obtain ⟨m, hm⟩ : ∃ m, m = l.take k := ⟨_, rfl⟩
    unfold TakeGood at ht
    rw [← hm] at ht et
    have HM := Lib.hid hm
    clear hm hno
    go_enter Tryz.func114, Tryz.ntmps114
    go_upto_region 2 with (go_at_call 146; (with_reducible refine ht.mono ?_); rintro e w1 ⟨T, rfl, hT, hR, hO⟩)
    obtain ⟨p, cap, rfl, hc⟩ := hT
    rw [et]
    have HC := Lib.hid hc
    have HR := Lib.hid (And.intro hR hO)
    clear hc hR hO ht
    go_wp2_with fail
    go_loopg [6, 7] k (fun gg s6 s7 wr => ∃ j : Nat, j + gg = k ∧ s6 = .int .i64 (toI64 (numW (m.take j))) ∧ s7 = .int .i64 j ∧ wr = w1)
    case atStart => exact ⟨0, by omega, rfl, rfl, rfl⟩
    case round =>
      obtain ⟨j, hjg, rfl, rfl, rfl⟩ := hrel
      by_cases hlt : (j : Int) < k
      · have hj1 : j < m.length := by omega
        obtain ⟨g, off, rfl, c1⟩ : ∃ g off, p = some ⟨g, off, none⟩ ∧ ∀ j c, m[j]? = some c → wr.cell? ⟨g, off + j, none⟩ = some (.int .u8 c.toNat) := by
          rcases HC.out with h | h
          · rw [h] at hj1; simp at hj1
          · exact h
        obtain ⟨a, ha⟩ : ∃ a, a = m[j] := ⟨_, rfl⟩
        have d1 := c1 j a (by rw [ha]; exact List.getElem?_eq_getElem hj1)
        have hs : numW (m.take (j + 1)) = numW (m.take j) * 256 + a.toNat := by rw [List.take_succ_eq_append_getElem hj1, numW_snoc, ha]
        have hb : numW (m.take j) < 256 ^ 7 := by
          have h1 := numW_lt (m.take j)
          rw [List.length_take] at h1
          exact Nat.lt_of_lt_of_le h1 (Nat.pow_le_pow_right (by decide) (by omega))
        have hb2 : numW (m.take j) < 72057594037927936 := hb
        have ha2 : a.toNat < 256 := UInt8.toNat_lt a
        have HS := Lib.hid hs
        clear c1 hb ha hs
        obtain ⟨x, hx⟩ : ∃ x, x = numW (m.take j) := ⟨_, rfl⟩
        obtain ⟨y, hy⟩ : ∃ y, y = a.toNat := ⟨_, rfl⟩
        rw [← hx] at hb2 ⊢
        rw [← hy] at ha2 d1
        rw [← hx, ← hy] at HS
        rw [toI64_small x (by omega)]
        clear hx hy
        go_wp2_with fail
        go_roundg (gk - 1)
        case measure => omega
        case rel => exact ⟨j + 1, by omega, by rw [HS.out, ← orI64 x y hb2 ha2], by go_num, rfl⟩
      · have e : m.take j = m := by rw [List.take_of_length_le]; omega
        rw [e]
        go_wp2_with fail
        go_ret
        exact .inr ⟨⟨rfl, by omega⟩, by rw [← HM.out]; rfl, HR.out.1, HR.out.2⟩
theorem convBts (w2 : World) (p : Option Addr) (cap : Nat) (m : List UInt8) (x : Nat) (et : m.length = x) (hb : m = [] ∨ ∃ g off, p = some ⟨g, off, none⟩ ∧ ∀ j c, m[j]? = some c → w2.cell? ⟨g, off + j, none⟩ = some (.int .u8 c.toNat)) : (convert 40 9 (.slice p x cap)).run Tryz.prog w2 = .ok (.string ⟨m.toArray⟩) w2 := by
  subst et
  rcases hb with hb | ⟨g, off, rfl, hb⟩
  · subst hb
    cases p with
    | none => exact convNil w2 cap
    | some a => exact run_convert_bytes_back (P := Tryz.prog) w2 40 9 5 a cap [] Tryz.underlying40 Tryz.underlying5 Tryz.underlying9 (fun j hj => absurd hj (by simp))
  · exact run_convert_bytes_back (P := Tryz.prog) w2 40 9 5 ⟨g, off, none⟩ cap m Tryz.underlying40 Tryz.underlying5 Tryz.underlying9 (fun j hj => by
      rw [Addr.add_mid]
      exact hb j _ (List.getElem?_eq_getElem hj))
/-- What text tells. -/
def TxtPost (R : Nat) (l : List UInt8) (bad : Bool) (w : World) (e : Ending) (w' : World) : Prop :=
  ((bad = true ∨ rzT l = none) ∧ (∃ t : ByteArray, t.size ≤ 1000000000 ∧ e = .returned (.string t)) ∧ (∃ l', l'.length ≤ l.length ∧ Rz w' R l' true) ∧ Only R w w') ∨ (∃ t r, bad = false ∧ rzT l = some (t, r) ∧ t.size ≤ l.length ∧ r.length ≤ l.length ∧ e = .returned (.string t) ∧ Rz w' R r false ∧ Only R w w')
set_option maxRecDepth 20000 in
set_option maxHeartbeats 3200000 in
theorem textAtZ (R : Nat) (l : List UInt8) (bad : Bool) (w : World) (h : Rz w R l bad) (hl : l.length ≤ 1000000000) :
    Calls Tryz.prog 115 #[.pointer (some ⟨R, 0, none⟩)] w (TxtPost R l bad w) := by
  have hc : Calls Tryz.prog 114 #[.pointer (some ⟨R, 0, none⟩), .int .i64 4] w (NumPost R l bad 4 w) := numAt R l bad 4 w h (by omega) hl
  unfold NumPost at hc
  unfold TxtPost
  by_cases hno : bad = true ∨ l.length < 4
  · have hc' : Calls Tryz.prog 114 #[.pointer (some ⟨R, 0, none⟩), .int .i64 4] w fun e w' => e = .returned (.int .i64 0) ∧ Rz w' R l true ∧ Only R w w' := hc.mono (by
      rintro e w' (⟨_, h⟩ | ⟨⟨h1, h2⟩, _⟩)
      · exact h
      · rcases hno with h | h
        · rw [h1] at h; cases h
        · omega)
    have hr : bad = true ∨ rzT l = none := by
      rcases hno with h | h
      · exact .inl h
      · refine .inr ?_
        unfold rzT
        rw [if_neg (fun h2 => by omega)]
    have ht : ∀ W, Rz W R l true → Calls Tryz.prog 146 #[.pointer (some ⟨R, 0, none⟩), .int .i64 0] W (TakeBad R l W) := fun W hR => takeZNo R l true 0 W hR (.inl rfl) hl
    unfold TakeBad at ht
    have hcv : ∀ W g, (convert 40 9 (.slice (some ⟨g, 0, none⟩) 0 0)).run Tryz.prog W = .ok (.string ⟨#[]⟩) W := fun W g => run_convert_bytes_back (P := Tryz.prog) W 40 9 5 ⟨g, 0, none⟩ 0 [] Tryz.underlying40 Tryz.underlying5 Tryz.underlying9 (fun j hj => absurd hj (by simp))
    have HR := Lib.hid hr
    clear hc hno hr
    go_enter Tryz.func115, Tryz.ntmps115
    go_wp2_with (first
      | (go_at_call 114; (with_reducible refine hc'.mono ?_); rintro e w1 ⟨rfl, hR, hO⟩)
      | (go_at_call 146; (with_reducible refine (ht _ hR).mono ?_); rintro e w2 ⟨g, rfl, hR2, hO2⟩; have hcv := hcv w2 g))
    go_ret
    exact .inl ⟨HR.out, ⟨⟨#[]⟩, by decide, rfl⟩, ⟨l, Nat.le_refl _, hR2⟩, hO.trans hO2⟩
  · have hb0 : bad = false := by cases bad; rfl; exact absurd (.inl rfl) hno
    have h4 : 4 ≤ l.length := by omega
    subst hb0
    have hx := num4 l
    obtain ⟨x, hxe⟩ : ∃ x, x = numW (l.take 4) := ⟨_, rfl⟩
    rw [← hxe] at hx hc
    have hc' : Calls Tryz.prog 114 #[.pointer (some ⟨R, 0, none⟩), .int .i64 4] w fun e w' => e = .returned (.int .i64 x) ∧ Rz w' R (l.drop 4) false ∧ Only R w w' := hc.mono (by
      rintro e w' (⟨h, _⟩ | ⟨_, he, h⟩)
      · exact absurd h hno
      · rw [toI64_small x (by omega)] at he
        exact ⟨he, h⟩)
    have ld : (l.drop 4).length = l.length - 4 := List.length_drop
    clear hc hno
    by_cases hle : x ≤ (l.drop 4).length
    · have ht := fun W (hR : Rz W R (l.drop 4) false) => takeZYes R (l.drop 4) x W hR hle (by omega)
      have hr : rzT l = some (⟨((l.drop 4).take x).toArray⟩, (l.drop 4).drop x) := by
        unfold rzT
        rw [← hxe, if_pos ⟨h4, hle⟩]
      have et : ((l.drop 4).take x).length = x := by rw [List.length_take]; omega
      have lr : ((l.drop 4).drop x).length ≤ l.length := by rw [List.length_drop]; omega
      have HR := Lib.hid (And.intro hr lr)
      obtain ⟨m, hm⟩ : ∃ m, m = (l.drop 4).take x := ⟨_, rfl⟩
      unfold TakeGood at ht
      rw [← hm] at et ht
      have HM := Lib.hid hm
      clear hr lr hm hxe
      go_enter Tryz.func115, Tryz.ntmps115
      go_wp2_with (first
        | (go_at_call 114; (with_reducible refine hc'.mono ?_); rintro e w1 ⟨rfl, hR, hO⟩)
        | (go_at_call 146; (with_reducible refine (ht _ hR).mono ?_); rintro e w2 ⟨T, rfl, hT, hR2, hO2⟩; obtain ⟨p, cap, rfl, hb⟩ := hT; rw [et]; have hconv : (convert 40 9 (.slice p x cap)).run Tryz.prog w2 = .ok (.string ⟨m.toArray⟩) w2 := convBts w2 p cap m x et hb))
      go_ret
      refine .inr ⟨⟨m.toArray⟩, (l.drop 4).drop x, trivial, by rw [HM.out]; exact HR.out.1, ?_, HR.out.2, rfl, hR2, hO.trans hO2⟩
      show m.length ≤ l.length
      omega
    · have ht : ∀ W, Rz W R (l.drop 4) false → Calls Tryz.prog 146 #[.pointer (some ⟨R, 0, none⟩), .int .i64 x] W (TakeBad R (l.drop 4) W) := fun W hR => takeZNo R (l.drop 4) false x W hR (.inr (.inr (by omega))) (by omega)
      unfold TakeBad at ht
      have hr : rzT l = none := by
        unfold rzT
        rw [← hxe, if_neg (fun h => hle h.2)]
      have hcv : ∀ W g, (convert 40 9 (.slice (some ⟨g, 0, none⟩) 0 0)).run Tryz.prog W = .ok (.string ⟨#[]⟩) W := fun W g => run_convert_bytes_back (P := Tryz.prog) W 40 9 5 ⟨g, 0, none⟩ 0 [] Tryz.underlying40 Tryz.underlying5 Tryz.underlying9 (fun j hj => absurd hj (by simp))
      have HR := Lib.hid hr
      clear hr hxe
      go_enter Tryz.func115, Tryz.ntmps115
      go_wp2_with (first
        | (go_at_call 114; (with_reducible refine hc'.mono ?_); rintro e w1 ⟨rfl, hR, hO⟩)
        | (go_at_call 146; (with_reducible refine (ht _ hR).mono ?_); rintro e w2 ⟨g, rfl, hR2, hO2⟩; have hcv := hcv w2 g))
      go_ret
      exact .inl ⟨.inr HR.out, ⟨⟨#[]⟩, by decide, rfl⟩, ⟨l.drop 4, by omega, hR2⟩, hO.trans hO2⟩
end Go.Proofs.YtoifjjgakblhhaaGreatDoor
