/- What each law of package dict ends in: two keys, three cells, a value: it holds. -/
import Derived.Test.YtffbcccbhofbpaaDoorC4
import Derived.Test.YtffbcccbhofbpaaDoorE1
namespace Go.Proofs.YtffbcccbhofbpaaDoor
open Go.RowKit

theorem turn_apart {F F' G : Nat → Prop} {w w' : World} (t : Turn F F' w w') (d : ∀ i, F i → ¬ G i) (lt : ∀ i, G i → i < w.heap.size) : ∀ i, F' i → ¬ G i := fun i q g => by
  rcases t.foot i q with h | h
  · exact d i h g
  · have := lt i g; omega
theorem turn_low {F F' : Nat → Prop} {B : Nat} {w w' : World} (t : Turn F F' w w') (hB : B ≤ w.heap.size) (l : ∀ i, F i → B ≤ i) : ∀ i, F' i → B ≤ i := fun i q => by
  rcases t.foot i q with h | h
  · exact l i h
  · omega
/-- The three things of 'wakes', apart. -/
structure Wk (w0 w : World) (g1 g2 g3 : Nat) (l1 : List ByteArray) (xs : List (Option Int)) (l3 : List ByteArray) (F1 F2 F3 : Nat → Prop) : Prop where
  d : Dic w g1 l1 F1
  c : ColNum w g2 xs F2
  v : Dic w g3 l3 F3
  a12 : ∀ i, F1 i → ¬ F2 i
  a13 : ∀ i, F1 i → ¬ F3 i
  a23 : ∀ i, F2 i → ¬ F3 i
  b1 : ∀ i, F1 i → w0.heap.size ≤ i
  b2 : ∀ i, F2 i → w0.heap.size ≤ i
  b3 : ∀ i, F3 i → w0.heap.size ≤ i
  bel : Below w0.heap.size w0 w
section
variable {w0 w w' : World} {g1 g2 g3 : Nat} {l1 l1' : List ByteArray} {xs xs' : List (Option Int)} {l3 l3' : List ByteArray} {F1 F2 F3 F' : Nat → Prop}
theorem Wk.turn1 (h : Wk w0 w g1 g2 g3 l1 xs l3 F1 F2 F3) (t : Turn F1 F' w w') (d' : Dic w' g1 l1' F') : Wk w0 w' g1 g2 g3 l1' xs l3 F' F2 F3 :=
  ⟨d', h.c.ch t.ch (fun i q p => h.a12 i p q), h.v.ch t.ch (fun i q p => h.a13 i p q), turn_apart t h.a12 (fun _ => h.c.lt), turn_apart t h.a13 (fun _ => h.v.lt), h.a23, turn_low t h.bel.size h.b1, h.b2, h.b3, h.bel.trans (t.ch.below h.bel.size h.b1)⟩
theorem Wk.turn2 (h : Wk w0 w g1 g2 g3 l1 xs l3 F1 F2 F3) (t : Turn F2 F' w w') (c' : ColNum w' g2 xs' F') : Wk w0 w' g1 g2 g3 l1 xs' l3 F1 F' F3 :=
  ⟨h.d.ch t.ch h.a12, c', h.v.ch t.ch (fun i q p => h.a23 i p q), fun i p q => turn_apart t (fun i p q => h.a12 i q p) (fun _ => h.d.lt) i q p, h.a13, turn_apart t h.a23 (fun _ => h.v.lt), h.b1, turn_low t h.bel.size h.b2, h.b3, h.bel.trans (t.ch.below h.bel.size h.b2)⟩
theorem Wk.turn3 (h : Wk w0 w g1 g2 g3 l1 xs l3 F1 F2 F3) (t : Turn F3 F' w w') (v' : Dic w' g3 l3' F') : Wk w0 w' g1 g2 g3 l1 xs l3' F1 F2 F' :=
  ⟨h.d.ch t.ch h.a13, h.c.ch t.ch h.a23, v', h.a12, fun i p q => turn_apart t (fun i p q => h.a13 i q p) (fun _ => h.d.lt) i q p, fun i p q => turn_apart t (fun i p q => h.a23 i q p) (fun _ => h.c.lt) i q p, h.b1, h.b2, turn_low t h.bel.size h.b3, h.bel.trans (t.ch.below h.bel.size h.b3)⟩
end
def kB : ByteArray := ⟨#[98]⟩
def kA : ByteArray := ⟨#[97]⟩
theorem kA_not : kA ∉ ([] ++ [kB] : List ByteArray) := by
  simp [kA, kB]
set_option maxRecDepth 20000 in
set_option maxHeartbeats 3200000 in
theorem wakesAt (w : World) : Calls Tryd.prog 13 #[] w fun e w' => e = .returned (.bool true) ∧ Below w.heap.size w w' := by
  have eB : (⟨#[98]⟩ : ByteArray) = kB := rfl
  have eA : (⟨#[97]⟩ : ByteArray) = kA := rfl
  go_enter Tryd.func13, Tryd.ntmps13
  rw [eB, eA]
  go_wp2_with (first
    | (go_at_call 7; (with_reducible refine (newAt _).mono ?_); rintro e w1 ⟨g1, F1, rfl, hb1, d1, m1⟩)
    | (go_at_call 23; (with_reducible refine (newColNum _).mono ?_); rintro e w2 ⟨g2, F2, rfl, hb2, c2, m2⟩)
    | (go_at_call 48; (with_reducible refine (newValues _).mono ?_); rintro e w3 ⟨g3, F3, rfl, hb3, v3, m3⟩
       have K : Wk w w3 g1 g2 g3 [] [] [] F1 F2 F3 := ⟨(d1.below hb2).below hb3, c2.below hb3, v3, fun i p q => by have h1 := d1.lt p; have h2 := m2 i q; omega, fun i p q => by have h1 := d1.lt p; have h2 := m3 i q; have h3 := hb2.size; omega, fun i p q => by have h1 := c2.lt p; have h2 := m3 i q; omega, m1, fun i p => Nat.le_trans hb1.size (m2 i p), fun i p => Nat.le_trans (Nat.le_trans hb1.size hb2.size) (m3 i p), below_any (below_any hb1 hb2 hb1.size) hb3 (Nat.le_trans hb1.size hb2.size)⟩
       clear d1 c2 v3 m1 m2 m3 hb1 hb2 hb3)
    | (go_at_call 10; (with_reducible refine (IDNo _ _ [] _ K.d kB (by simp) (by decide) (by decide) (by simp)).mono ?_); rintro e w4 ⟨F4, rfl, d4, t4⟩; replace K := K.turn1 t4 d4; clear t4 d4)
    | (go_at_call 10; (with_reducible refine (IDNo _ _ ([] ++ [kB]) _ K.d kA kA_not (by decide) (by decide) (by simp)).mono ?_); rintro e w5 ⟨F5, rfl, d5, t5⟩; replace K := K.turn1 t5 d5; clear t5 d5)
    | (go_at_call 25; (with_reducible refine (putNum _ _ [] _ K.c (by simp) 5).mono ?_); rintro e w6 ⟨rfl, F6, c6, t6⟩; replace K := K.turn2 t6 c6; clear t6 c6)
    | (go_at_call 24; (with_reducible refine (putNullNum _ _ ([] ++ [some 5]) _ K.c (by simp)).mono ?_); rintro e w7 ⟨rfl, F7, c7, t7⟩; replace K := K.turn2 t7 c7; clear t7 c7)
    | (go_at_call 49; (with_reducible refine (valuesID3 _ _ _ K.v).mono ?_); rintro e w8 ⟨F8, rfl, v8, t8⟩; replace K := K.turn3 t8 v8; clear t8 v8)
    | (go_at_call 10; (with_reducible refine (IDYes _ _ ([] ++ [kB] ++ [kA]) _ K.d kB 0 rfl (by decide)).mono ?_); rintro e w9 ⟨rfl, rfl⟩)
    | (go_at_call 11; (with_reducible refine (LenAt _ _ ([] ++ [kB] ++ [kA]) _ K.d).mono ?_); rintro e w9 ⟨rfl, rfl⟩)
    | (go_at_call 26; (with_reducible refine (lenNum _ _ ([] ++ [some 5] ++ [none]) _ K.c).mono ?_); rintro e w9 ⟨rfl, rfl⟩)
    | (go_at_call 27; (with_reducible refine (nullsNum _ _ ([] ++ [some 5] ++ [none]) _ K.c (by simp)).mono ?_); rintro e w9 ⟨rfl, rfl⟩)
    | (go_at_call 50; (with_reducible refine (valuesLen _ _ [b3] _ K.v).mono ?_); rintro e w9 ⟨rfl, rfl⟩))
  trace_state
  go_ret
  exact ⟨rfl, K.bel⟩
end Go.Proofs.YtffbcccbhofbpaaDoor
