/- Texts of one kind, one behind the other: each says ahead of itself what it shows. -/
import Derived.Test.YtanbgdhmfjgihaaGreatDoorHal
import Derived.Test.YtanbgdhmfjgihaaGreatDoorHaf
import Derived.Test.YtanbgdhmfjgihaaGreatDoorHab
import Derived.Test.YtanbgdhmfjgihaaGreatDoorHah
import Derived.BigGuardPart
import Derived.Deep.DeepCutAuto
import Derived.WalkKit
import Derived.OwnWalk
/- How any two values stand: Order. -/
namespace Go.Proofs.YtanbgdhmfjgihaaGreatDoor
open Go.RowKit

set_option maxRecDepth 20000 in
set_option maxHeartbeats 6400000 in
theorem ord_step (v : Val) (k : Int) (b : Bool) (n : Int) (t x : ByteArray) (q : List Val) (ev : v = .mk k b n t x q) (each : ∀ u ∈ q, OrdAt u) : OrdAt v := by
  subst ev
  intro lang w k1 b1 n1 t1 x1 q1 p cap v2 k2 b2 n2 t2 x2 q2 p2 cap2 e1 e2 hG hT hf hf2 hl hl2
  cases e1
  subst e2
  obtain ⟨W0, hW0⟩ : ∃ W0, W0 = (w.alloc (.cells #[.int .i64 k, .bool b, .int .i64 n, .string t, .string x, .slice p q.length cap] 39)).alloc (.cells #[.int .i64 k2, .bool b2, .int .i64 n2, .string t2, .string x2, .slice p2 q2.length cap2] 39) := ⟨_, rfl⟩
  have S4 : Six W0 w.heap.size k b n t x p q.length cap := by rw [hW0]; exact (six_new _ rfl).alloc _
  have S5 : Six W0 (w.heap.size + 1) k2 b2 n2 t2 x2 p2 q2.length cap2 := by rw [hW0]; exact six_new _ (by simp)
  have b0 : Low w.heap.size w W0 := by rw [hW0]; exact low2 _ _ _
  have hwi := fun (hr : rankI lang k = rankI lang k2) W (h : Low w.heap.size w W) => withinAt lang k b n t x q p cap k2 b2 n2 t2 x2 q2 p2 cap2 W hr (hG.below h.is) (hT.below h.is) hf hf2 (Held.below q hl h.is) (Held.below q2 hl2 h.is) each
  have hr1 := fun W => rankAt lang k b n t x p q.length cap W
  have hr2 := fun W => rankAt lang k2 b2 n2 t2 x2 p2 q2.length cap2 W
  rw [orderI_mk, ← withinI_mk]
  generalize withinI lang (.mk k b n t x q) (.mk k2 b2 n2 t2 x2 q2) = r at hwi ⊢
  generalize rankI lang k = ra at hwi hr1 ⊢
  generalize rankI lang k2 = rb at hwi hr2 ⊢
  have H0 := Lib.hid hW0
  clear hW0 hl hl2 hf hf2 hG hT each
  obtain ⟨z, hz⟩ : ∃ z, z = lexI (cmpZ ra rb) r := ⟨_, rfl⟩
  rw [← hz]
  go_enter Tryz.func102, Tryz.ntmps102
  go_upto_region 2 with fail
  rw [← H0.out]
  refine wp_region_held_drew (S := fun w' => Six w' w.heap.size k b n t x p q.length cap ∧ Six w' (w.heap.size + 1) k2 b2 n2 t2 x2 p2 q2.length cap2 ∧ Low w.heap.size w w') (by kernel_rfl) ⟨S4, S5, b0.drew⟩ (fun hHeld => ?_)
  refine wpAnyH_take (i := 0) (v := .int .i64 lang) rfl (by kernel_rfl) (by kernel_rfl) (by kernel_rfl) (fun _ _ _ h => h) (Or.inl ⟨by rfl, fun W _ => by go_simp⟩) hHeld ?_
  try simp only [Act.put, List.getElem_toArray, List.getElem_cons_succ, List.getElem_cons_zero, List.setIfInBounds_toArray, List.set_cons_zero, List.set_cons_succ]
  refine wpAnyH_take (i := 1) rfl (by kernel_rfl) (by kernel_rfl) (by kernel_rfl) (fun _ _ _ h => h) (yields6 (by rfl) (.tmp 4) rfl w.heap.size rfl (fun _ h => h.1)) hHeld ?_
  try simp only [Act.put, List.getElem_toArray, List.getElem_cons_succ, List.getElem_cons_zero, List.setIfInBounds_toArray, List.set_cons_zero, List.set_cons_succ]
  refine wpAnyH_take (i := 3) (v := .int .i64 lang) rfl (by kernel_rfl) (by kernel_rfl) (by kernel_rfl) (fun _ _ _ h => h) (Or.inl ⟨by rfl, fun W _ => by go_simp⟩) hHeld ?_
  try simp only [Act.put, List.getElem_toArray, List.getElem_cons_succ, List.getElem_cons_zero, List.setIfInBounds_toArray, List.set_cons_zero, List.set_cons_succ]
  refine wpAnyH_take (i := 4) rfl (by kernel_rfl) (by kernel_rfl) (by kernel_rfl) (fun _ _ _ h => h) (yields6 (by rfl) (.tmp 5) rfl (w.heap.size + 1) rfl (fun _ h => h.2.1)) hHeld ?_
  try simp only [Act.put, List.getElem_toArray, List.getElem_cons_succ, List.getElem_cons_zero, List.setIfInBounds_toArray, List.set_cons_zero, List.set_cons_succ]
  obtain ⟨u1, u2, u3⟩ := hHeld
  refine wpAnyH_ready (rs := [2]) (by kernel_rfl) (by simp) ?_
  refine AllReadyH.cons rfl (fun K hK => ?_) AllReadyH.nil
  rw [if_pos (by rfl)]
  go_simp
  refine (hr1 _).mono ?_
  rintro e w3 ⟨rfl, hb⟩
  refine hK.out _ _ ⟨u1.below hb.is, u2.below hb.is, low_any u3 hb u3.size⟩ (fun hHeld => ?_)
  clear hK K u1 u2 u3 hb
  try simp only [Act.put, List.getElem_toArray, List.getElem_cons_succ, List.getElem_cons_zero, List.setIfInBounds_toArray, List.set_cons_zero, List.set_cons_succ]
  obtain ⟨u1, u2, u3⟩ := hHeld
  refine wpAnyH_ready (rs := [5]) (by kernel_rfl) (by simp) ?_
  refine AllReadyH.cons rfl (fun K hK => ?_) AllReadyH.nil
  rw [if_pos (by rfl)]
  go_simp
  refine (hr2 _).mono ?_
  rintro e w3 ⟨rfl, hb⟩
  refine hK.out _ _ ⟨u1.below hb.is, u2.below hb.is, low_any u3 hb u3.size⟩ (fun hHeld => ?_)
  clear hK K u1 u2 u3 hb
  try simp only [Act.put, List.getElem_toArray, List.getElem_cons_succ, List.getElem_cons_zero, List.setIfInBounds_toArray, List.set_cons_zero, List.set_cons_succ]
  refine wpAnyH_take (i := 6) (v := .int .i64 ra) rfl (by kernel_rfl) (by kernel_rfl) (by kernel_rfl) (fun _ _ _ h => h) (Or.inl ⟨by rfl, fun W _ => by go_simp⟩) hHeld ?_
  try simp only [Act.put, List.getElem_toArray, List.getElem_cons_succ, List.getElem_cons_zero, List.setIfInBounds_toArray, List.set_cons_zero, List.set_cons_succ]
  refine wpAnyH_take (i := 7) (v := .int .i64 rb) rfl (by kernel_rfl) (by kernel_rfl) (by kernel_rfl) (fun _ _ _ h => h) (Or.inl ⟨by rfl, fun W _ => by go_simp⟩) hHeld ?_
  try simp only [Act.put, List.getElem_toArray, List.getElem_cons_succ, List.getElem_cons_zero, List.setIfInBounds_toArray, List.set_cons_zero, List.set_cons_succ]
  refine wpAnyH_done (by kernel_rfl) ?_ _
  obtain ⟨u1, u2, u3⟩ := hHeld
  have H1 := Lib.hid hz
  clear hz
  by_cases h1 : ra < rb
  · obtain rfl : z = -1 := by rw [H1.out]; unfold cmpZ; rw [if_pos h1]; rfl
    clear H1 hwi
    go_wp2_with fail
    go_ret
    exact ⟨rfl, u3⟩
  · by_cases h2 : rb < ra
    · obtain rfl : z = 1 := by rw [H1.out]; unfold cmpZ; rw [if_neg h1, if_pos h2]; rfl
      clear H1 hwi
      go_wp2_with fail
      go_ret
      exact ⟨rfl, u3⟩
    · obtain rfl : ra = rb := by omega
      obtain rfl : z = r := by rw [H1.out, cmpZ_same, lexI_zero]
      replace hwi := hwi rfl
      clear H1
      go_wp2_with (first
        | ((with_reducible refine wpList_load6 (.tmp 4) w.heap.size u1 ?_ ?_ ?_ ?_); rfl; rfl; rfl)
        | ((with_reducible refine wpList_load6 (.tmp 5) (w.heap.size + 1) u2 ?_ ?_ ?_ ?_); rfl; rfl; rfl)
        | (go_at_call 137; (with_reducible refine (hwi _ u3).mono ?_); rintro e w3 ⟨rfl, hb⟩; replace u3 := low_any u3 hb u3.size; clear hb))
      go_ret
      exact ⟨rfl, u3⟩

mutual
theorem ordAll : (v : Val) → OrdAt v
  | .mk k b n t x q => ord_step _ k b n t x q rfl (ordEach q)
theorem ordEach : (q : List Val) → ∀ u ∈ q, OrdAt u
  | [], _, h => absurd h (by simp)
  | v :: r, u, h => by
    rcases List.mem_cons.1 h with h | h
    · rw [h]; exact ordAll v
    · exact ordEach r u h
end

end Go.Proofs.YtanbgdhmfjgihaaGreatDoor

/- What may stand where in a triple: isSubject, isPredicate, isObject; how two values stand in the store's order. -/
namespace Go.Proofs.YtanbgdhmfjgihaaGreatDoor
open Go.RowKit

/-- May a value of this kind be a subject, a predicate, an object? -/
def subjP (k : Int) : Bool := k == 8 || k == 9
def predP (k : Int) : Bool := k == 8
def objP (k : Int) : Bool := k == 8 || k == 9 || k == 10 || k == 4 || k == 1 || k == 2 || k == 3

theorem predAt (k : Int) (b : Bool) (n : Int) (t x : ByteArray) (p : Option Addr) (len cap : Nat) (w : World) :
    Calls Tryz.prog 46 #[.agg #[.int .i64 k, .bool b, .int .i64 n, .string t, .string x, .slice p len cap]] w fun e w' => e = .returned (.bool (predP k)) ∧ Low w.heap.size w w' := by
  have h0 := (six_new (k := k) (b := b) (n := n) (t := t) (x := x) (p := p) (len := len) (cap := cap) w rfl).c0
  go_enter Tryz.func46, Tryz.ntmps46
  go_wp2_with fail
  go_ret
  exact ⟨rfl, low1 _ _⟩
theorem subjAt (k : Int) (b : Bool) (n : Int) (t x : ByteArray) (p : Option Addr) (len cap : Nat) (w : World) :
    Calls Tryz.prog 45 #[.agg #[.int .i64 k, .bool b, .int .i64 n, .string t, .string x, .slice p len cap]] w fun e w' => e = .returned (.bool (subjP k)) ∧ Low w.heap.size w w' := by
  have h0 := (six_new (k := k) (b := b) (n := n) (t := t) (x := x) (p := p) (len := len) (cap := cap) w rfl).c0
  by_cases e : k = 8
  · subst e
    go_enter Tryz.func45, Tryz.ntmps45
    go_wp2_with fail
    go_ret
    exact ⟨rfl, low1 _ _⟩
  · have e8 : (k == (8 : Int)) = false := by simpa using e
    have hv : subjP k = (k == 9) := by unfold subjP; rw [e8]; rfl
    rw [hv]
    clear hv e
    go_enter Tryz.func45, Tryz.ntmps45
    go_wp2_with fail
    go_ret
    exact ⟨rfl, low1 _ _⟩

theorem objAt (k : Int) (b : Bool) (n : Int) (t x : ByteArray) (p : Option Addr) (len cap : Nat) (w : World) :
    Calls Tryz.prog 47 #[.agg #[.int .i64 k, .bool b, .int .i64 n, .string t, .string x, .slice p len cap]] w fun e w' => e = .returned (.bool (objP k)) ∧ Low w.heap.size w w' := by
  have h0 := (six_new (k := k) (b := b) (n := n) (t := t) (x := x) (p := p) (len := len) (cap := cap) w rfl).c0
  by_cases e8 : k = 8
  · subst e8
    go_enter Tryz.func47, Tryz.ntmps47
    go_wp2_with fail
    go_ret
    exact ⟨rfl, low1 _ _⟩
  by_cases e9 : k = 9
  · subst e9
    clear e8
    go_enter Tryz.func47, Tryz.ntmps47
    go_wp2_with fail
    go_ret
    exact ⟨rfl, low1 _ _⟩
  by_cases e10 : k = 10
  · subst e10
    clear e8
    clear e9
    go_enter Tryz.func47, Tryz.ntmps47
    go_wp2_with fail
    go_ret
    exact ⟨rfl, low1 _ _⟩
  by_cases e4 : k = 4
  · subst e4
    clear e8
    clear e9
    clear e10
    go_enter Tryz.func47, Tryz.ntmps47
    go_wp2_with fail
    go_ret
    exact ⟨rfl, low1 _ _⟩
  by_cases e1 : k = 1
  · subst e1
    clear e8
    clear e9
    clear e10
    clear e4
    go_enter Tryz.func47, Tryz.ntmps47
    go_wp2_with fail
    go_ret
    exact ⟨rfl, low1 _ _⟩
  by_cases e2 : k = 2
  · subst e2
    clear e8
    clear e9
    clear e10
    clear e4
    clear e1
    go_enter Tryz.func47, Tryz.ntmps47
    go_wp2_with fail
    go_ret
    exact ⟨rfl, low1 _ _⟩
  by_cases e3 : k = 3
  · subst e3
    clear e8
    clear e9
    clear e10
    clear e4
    clear e1
    clear e2
    go_enter Tryz.func47, Tryz.ntmps47
    go_wp2_with fail
    go_ret
    exact ⟨rfl, low1 _ _⟩
  have g8 : (k == (8 : Int)) = false := by simpa using e8
  have g9 : (k == (9 : Int)) = false := by simpa using e9
  have g10 : (k == (10 : Int)) = false := by simpa using e10
  have g4 : (k == (4 : Int)) = false := by simpa using e4
  have g1 : (k == (1 : Int)) = false := by simpa using e1
  have g2 : (k == (2 : Int)) = false := by simpa using e2
  have g3 : (k == (3 : Int)) = false := by simpa using e3
  have hv : objP k = false := by unfold objP; rw [g8, g9, g10, g4, g1, g2, g3]; rfl
  rw [hv]
  clear hv e8 e9 e10 e4 e1 e2 e3
  go_enter Tryz.func47, Tryz.ntmps47
  go_wp2_with fail
  go_ret
  exact ⟨rfl, low1 _ _⟩

/-- compareValues: the order of the strict language. -/
theorem cmpValAt (v v2 : Val) (W : World) (k : Int) (b : Bool) (n : Int) (t x : ByteArray) (q : List Val) (p : Option Addr) (cap : Nat) (k2 : Int) (b2 : Bool) (n2 : Int) (t2 x2 : ByteArray) (q2 : List Val) (p2 : Option Addr) (cap2 : Nat)
    (e : v = .mk k b n t x q) (e2 : v2 = .mk k2 b2 n2 t2 x2 q2) (hG : Gd W) (hT : Tab W) (hf : Fine n t x q.length) (hf2 : Fine n2 t2 x2 q2.length) (hl : Held W (.slice p q.length cap) q) (hl2 : Held W (.slice p2 q2.length cap2) q2) :
    Calls Tryz.prog 74 #[.agg #[.int .i64 k, .bool b, .int .i64 n, .string t, .string x, .slice p q.length cap], .agg #[.int .i64 k2, .bool b2, .int .i64 n2, .string t2, .string x2, .slice p2 q2.length cap2]] W
      fun e w' => e = .returned (.int .i64 (orderI 1 v v2)) ∧ Low W.heap.size W w' := by
  obtain ⟨W0, hW0⟩ : ∃ W0, W0 = (W.alloc (.cells #[.int .i64 k, .bool b, .int .i64 n, .string t, .string x, .slice p q.length cap] 39)).alloc (.cells #[.int .i64 k2, .bool b2, .int .i64 n2, .string t2, .string x2, .slice p2 q2.length cap2] 39) := ⟨_, rfl⟩
  have S4 : Six W0 W.heap.size k b n t x p q.length cap := by rw [hW0]; exact (six_new _ rfl).alloc _
  have S5 : Six W0 (W.heap.size + 1) k2 b2 n2 t2 x2 p2 q2.length cap2 := by rw [hW0]; exact six_new _ (by simp)
  have b0 : Low W.heap.size W W0 := by rw [hW0]; exact low2 _ _ _
  have hc := ordAll v 1 W0 k b n t x q p cap v2 k2 b2 n2 t2 x2 q2 p2 cap2 e e2 (hG.below b0.is) (hT.below b0.is) hf hf2 (Held.below q hl b0.is) (Held.below q2 hl2 b0.is)
  have HW := Lib.hid hW0
  clear hW0 hl hl2 hf hf2 hG hT e e2
  generalize orderI 1 v v2 = r at hc ⊢
  go_enter Tryz.func74, Tryz.ntmps74
  go_wp2_with (first
    | (rw [← HW.out]; (with_reducible refine wpList_load6 (.tmp 2) W.heap.size S4 ?_ ?_ ?_ ?_); rfl; rfl; rfl)
    | ((with_reducible refine wpList_load6 (.tmp 3) (W.heap.size + 1) S5 ?_ ?_ ?_ ?_); rfl; rfl; rfl)
    | (go_at_call 102; (with_reducible refine hc.mono ?_); rintro e w3 ⟨rfl, hb3⟩; replace b0 := low_any b0 hb3 b0.size))
  go_ret
  exact ⟨rfl, b0⟩
end Go.Proofs.YtanbgdhmfjgihaaGreatDoor

/- The document's own answer: whether a text may be an address, a name. -/
namespace Go.Proofs.YtanbgdhmfjgihaaGreatDoor
open Go.RowKit

end Go.Proofs.YtanbgdhmfjgihaaGreatDoor

/- wakes: a sum and a quotient. -/
namespace Go.Proofs.YtanbgdhmfjgihaaGreatDoor
open Go.RowKit

end Go.Proofs.YtanbgdhmfjgihaaGreatDoor

/- What a law of texts keeps from call to call. -/
namespace Go.Proofs.YtanbgdhmfjgihaaGreatDoor
open Go.RowKit

/-- The strings of the argument, in memory. -/
def Strs (w : World) (b off n : Nat) (S : Nat → ByteArray) : Prop := ∀ i, i < n → w.cell? ⟨b, off + i, none⟩ = some (.string (S i))
theorem Strs.below {w w' : World} {b off n : Nat} {S : Nat → ByteArray} (h : Strs w b off n S) (k : Below w.heap.size w w') : Strs w' b off n S := fun i hi =>
  (k.cell (p := ⟨b, off + i, none⟩) (World.block_lt_of_cell? w _ (h i hi))).trans (h i hi)

/-- What holds at every call of a law's round. -/
structure Inv (w : World) (b off n cap : Nat) (S : Nat → ByteArray) (wr : World) : Prop where
  cell : wr.cell? ⟨w.heap.size, 0, none⟩ = some (.slice (some ⟨b, off, none⟩) n cap)
  lt : w.heap.size < wr.heap.size
  bel : Low w.heap.size w wr
  g : Gd wr
  t : Tab wr
  s : Strs wr b off n S
theorem Inv.step {w wr w' : World} {b off n cap : Nat} {S : Nat → ByteArray} (h : Inv w b off n cap S wr) (k : Low wr.heap.size wr w') : Inv w b off n cap S w' :=
  ⟨(k.cell (p := ⟨w.heap.size, 0, none⟩) h.lt).trans h.cell, Nat.lt_of_lt_of_le h.lt k.size, low_any h.bel k (Nat.le_of_lt h.lt), h.g.below k.is, h.t.below k.is, h.s.below k.is⟩
theorem Inv.start {w : World} {b off n cap : Nat} {S : Nat → ByteArray} (v2 : Value) (hG : Gd w) (hT : Tab w) (hS : Strs w b off n S) :
    Inv w b off n cap S (w.alloc (.cells #[.slice (some ⟨b, off, none⟩) n cap, v2] 25)) := by
  have hb0 : Low w.heap.size w (w.alloc (.cells #[.slice (some ⟨b, off, none⟩) n cap, v2] 25)) := (Low.refl _ _).alloc (Nat.le_refl _) _
  exact ⟨cell_of (heap_new _ _ rfl) _ rfl, by simp, hb0, hG.below hb0.is, hT.below hb0.is, hS.below hb0.is⟩
end Go.Proofs.YtanbgdhmfjgihaaGreatDoor

/- The document's own digits: lists of digits in memory, the lowest first: one digit, all noughts, which is greater. -/
namespace Go.Proofs.YtanbgdhmfjgihaaGreatDoor
open Go.RowKit

/-- The number that the first n digits say, the lowest first. -/
def vT : Nat → (Nat → Nat) → Nat
  | 0, _ => 0
  | n + 1, f => vT n f + f n * 10 ^ n
theorem vT_lt (f : Nat → Nat) (h : ∀ j, f j ≤ 9) : ∀ n, vT n f < 10 ^ n
  | 0 => by simp [vT]
  | n + 1 => by
    have := vT_lt f h n
    have h2 : f n * 10 ^ n ≤ 9 * 10 ^ n := Nat.mul_le_mul_right _ (h n)
    show vT n f + f n * 10 ^ n < 10 ^ (n + 1)
    rw [Nat.pow_succ]; omega
theorem vT_eq (f g : Nat → Nat) : ∀ n, (∀ j, j < n → f j = g j) → vT n f = vT n g
  | 0, _ => rfl
  | n + 1, h => by
    show vT n f + f n * 10 ^ n = vT n g + g n * 10 ^ n
    rw [vT_eq f g n (fun j hj => h j (by omega)), h n (by omega)]
theorem vT_cmp (f g : Nat → Nat) (hf : ∀ j, f j ≤ 9) (k : Nat) (hk : f k < g k) : ∀ n, k < n → (∀ j, k < j → j < n → f j = g j) → vT n f < vT n g
  | n + 1, h, e => by
    show vT n f + f n * 10 ^ n < vT n g + g n * 10 ^ n
    by_cases hn : k = n
    · subst hn
      have h1 := vT_lt f hf k
      have h2 : (f k + 1) * 10 ^ k ≤ g k * 10 ^ k := Nat.mul_le_mul_right _ hk
      rw [Nat.add_mul, Nat.one_mul] at h2
      omega
    · have := vT_cmp f g hf k hk n (by omega) (fun j a b => e j a (by omega))
      rw [e n (by omega) (by omega)]
      omega
theorem vT_pad (f : Nat → Nat) (n : Nat) (h : ∀ j, n ≤ j → f j = 0) : ∀ m, n ≤ m → vT m f = vT n f
  | 0, hm => by rw [Nat.le_zero.1 hm]
  | m + 1, hm => by
    by_cases e : n = m + 1
    · rw [e]
    · show vT m f + f m * 10 ^ m = _
      rw [vT_pad f n h m (by omega), h m (by omega)]; simp

/-- Digit j; 0 beyond. -/
def dig (ds : List Nat) (j : Nat) : Nat := ds.getD j 0
theorem dig_out {ds : List Nat} {j : Nat} (h : ds.length ≤ j) : dig ds j = 0 := by simp [dig, List.getD, h]
/-- The number that the digits say. -/
def val10 (ds : List Nat) : Nat := vT ds.length (dig ds)
/-- Digits, each of them. -/
def Small (ds : List Nat) : Prop := ∀ j, dig ds j ≤ 9
theorem val10_pad (ds : List Nat) {m : Nat} (h : ds.length ≤ m) : vT m (dig ds) = val10 ds := vT_pad _ _ (fun _ hj => dig_out hj) m h

/-- Digits in memory. -/
def Ints (w : World) (v : Value) (ds : List Nat) : Prop :=
  (v = .slice none 0 0 ∧ ds = []) ∨ ∃ b off cap, v = .slice (some ⟨b, off, none⟩) ds.length cap ∧ (∀ i, i < ds.length → w.cell? ⟨b, off + i, none⟩ = some (.int .i64 (dig ds i))) ∧ ∃ cs, w.heap[b]? = some (.cells cs 3 (0, 0))
theorem Ints.below {w w' : World} {v : Value} {ds : List Nat} (h : Ints w v ds) (k : Below w.heap.size w w') : Ints w' v ds := by
  rcases h with h | ⟨b, off, cap, e, hc, cs, hk⟩
  · exact .inl h
  · exact .inr ⟨b, off, cap, e, fun i hi => (k.cell (p := ⟨b, off + i, none⟩) (World.block_lt_of_cell? w _ (hc i hi))).trans (hc i hi), cs, (k.block b (lt_of_heap hk)).trans hk⟩

/-- A block of another type may be written. -/
theorem Ints.only {w w' : World} {v : Value} {ds : List Nat} {g : Nat} {cs : Array Value} {t : TypeId} (h : Ints w v ds) (k : Only g w w') (hg : w.heap[g]? = some (.cells cs t (0, 0))) (ht : t ≠ 3) : Ints w' v ds := by
  rcases h with h | ⟨b, off, cap, e, hc, cs2, hk⟩
  · exact .inl h
  · have hne : b ≠ g := fun x => by
      rw [x, hg] at hk
      injection hk with hk
      injection hk with _ h2 _
      exact ht h2
    have hb := (k.block b (lt_of_heap hk) hne)
    exact .inr ⟨b, off, cap, e, fun i hi => (World.cell?_of_block (w := w) (a := ⟨b, off + i, none⟩) hb).trans (hc i hi), cs2, hb.trans hk⟩

theorem digitRefAt (c : Nat) (w : World) (hc : c < 256) : Calls Tryz.prog 157 #[.int .u8 c] w fun e w' => e = .returned (.bool (decide (48 ≤ c ∧ c ≤ 57))) ∧ w = w' := by
  by_cases h1 : (48 : Int) ≤ c
  · by_cases h2 : (c : Int) ≤ 57
    · have : decide (48 ≤ c ∧ c ≤ 57) = true := by simp; omega
      rw [this]
      go_enter Tryz.func157, Tryz.ntmps157
      go_wp2
      go_ret
      exact ⟨rfl, rfl⟩
    · have : decide (48 ≤ c ∧ c ≤ 57) = false := by simp; omega
      rw [this]
      go_enter Tryz.func157, Tryz.ntmps157
      go_wp2
      go_ret
      exact ⟨by simp, rfl⟩
  · have : decide (48 ≤ c ∧ c ≤ 57) = false := by simp; omega
    rw [this]
    go_enter Tryz.func157, Tryz.ntmps157
    go_wp2
    go_ret
    exact ⟨by simp, rfl⟩

/-- What 'at' answers. -/
def dgI (ds : List Nat) (i : Int) : Nat := if i < 0 then 0 else dig ds i.toNat

theorem refAt (v : Value) (ds : List Nat) (i : Int) (w : World) (h : Ints w v ds) : Calls Tryz.prog 158 #[v, .int .i64 i] w fun e w' => e = .returned (.int .i64 (dgI ds i)) ∧ w = w' := by
  unfold dgI
  by_cases h0 : i < 0
  · rw [if_pos h0]
    rcases h with ⟨rfl, rfl⟩ | ⟨b, off, cap, rfl, hc, hty⟩
    · go_enter Tryz.func158, Tryz.ntmps158
      go_wp2
      go_ret
      exact ⟨rfl, rfl⟩
    · clear hc
      go_enter Tryz.func158, Tryz.ntmps158
      go_wp2
      go_ret
      exact ⟨rfl, rfl⟩
  · rw [if_neg h0]
    obtain ⟨k, rfl⟩ := Int.eq_ofNat_of_zero_le (Int.not_lt.1 h0)
    rw [show ((k : Int)).toNat = k by omega]
    rcases h with ⟨rfl, rfl⟩ | ⟨b, off, cap, rfl, hc, hty⟩
    · rw [dig_out (by simp)]
      have hk : (k : Int) ≥ 0 := by omega
      go_enter Tryz.func158, Tryz.ntmps158
      go_wp2
      go_ret
      exact ⟨rfl, rfl⟩
    · by_cases hl : (ds.length : Int) ≤ k
      · rw [dig_out (by omega)]
        clear hc
        generalize ds.length = n at *
        go_enter Tryz.func158, Tryz.ntmps158
        go_wp2
        go_ret
        exact ⟨rfl, rfl⟩
      · have c1 := hc k (by omega)
        clear hc
        generalize dig ds k = x at *
        generalize ds.length = n at *
        go_enter Tryz.func158, Tryz.ntmps158
        go_wp2
        go_ret
        exact ⟨rfl, rfl⟩
end Go.Proofs.YtanbgdhmfjgihaaGreatDoor

/- The document's own digits: all noughts, which is greater. -/
namespace Go.Proofs.YtanbgdhmfjgihaaGreatDoor
open Go.RowKit

theorem val10_zero (ds : List Nat) : val10 ds = 0 ↔ ∀ j, j < ds.length → dig ds j = 0 := by
  unfold val10
  generalize dig ds = f
  generalize ds.length = n
  induction n with
  | zero => simp [vT]
  | succ n ih =>
    show vT n f + f n * 10 ^ n = 0 ↔ _
    have hp : 0 < 10 ^ n := Nat.pow_pos (show 0 < 10 by decide)
    constructor
    · intro h j hj
      have h1 : vT n f = 0 := by omega
      have h2 : f n * 10 ^ n = 0 := by omega
      rcases Nat.lt_or_ge j n with h3 | h3
      · exact ih.1 h1 j h3
      · obtain rfl : j = n := by omega
        rcases Nat.mul_eq_zero.1 h2 with h4 | h4
        · exact h4
        · omega
    · intro h
      rw [ih.2 (fun j hj => h j (by omega)), h n (by omega)]; simp

set_option maxHeartbeats 800000 in
theorem refZero (v : Value) (ds : List Nat) (w : World) (h : Ints w v ds) (hn : ds.length ≤ 9223372036854775807) (d : Bool) (hd : d = decide (val10 ds = 0)) : Calls Tryz.prog 97 #[v] w fun e w' => e = .returned (.bool d) ∧ w = w' := by
  rcases h with ⟨rfl, rfl⟩ | ⟨b, off, cap, rfl, hc, hty⟩
  · obtain rfl : d = true := by rw [hd]; rfl
    clear hd
    go_enter Tryz.func97, Tryz.ntmps97
    go_wp2_with fail
    go_loopg [3] 0 (fun gg s3 wr => gg = 0 ∧ s3 = .int .i64 0 ∧ wr = w)
    case atStart => exact ⟨rfl, rfl, rfl⟩
    case round =>
      obtain ⟨_, rfl, rfl⟩ := hrel
      go_wp2
      go_ret
      exact ⟨rfl, rfl⟩
  · have hz := val10_zero ds
    have HZ := Lib.hid hz
    have HD := Lib.hid hd
    clear hz hd
    go_enter Tryz.func97, Tryz.ntmps97
    go_wp2_with fail
    go_loopg [3] ds.length (fun gg s3 wr => ∃ i : Nat, i + gg = ds.length ∧ s3 = .int .i64 i ∧ wr = w ∧ Aside (∀ j, j < i → dig ds j = 0))
    case atStart => exact ⟨0, by omega, rfl, rfl, fun j hj => absurd hj (Nat.not_lt_zero j)⟩
    case round =>
      obtain ⟨i, hi, rfl, rfl, hall⟩ := hrel
      have HA := Lib.hid hall.out
      clear hall
      by_cases hlt : (i : Int) < ds.length
      · have c1 := hc i (by omega)
        by_cases hx : dig ds i = 0
        · rw [hx] at c1
          have hall2 : ∀ j, j < i + 1 → dig ds j = 0 := fun j hj => by
            rcases Nat.lt_or_ge j i with h3 | h3
            · exact HA.out j h3
            · rw [show j = i by omega]; exact hx
          have HA2 := Lib.hid hall2
          clear hall2 HA hc hx
          generalize ds.length = n at *
          go_wp2_with fail
          go_roundg (gk - 1)
          case measure => omega
          case rel => exact ⟨i + 1, by omega, by go_num, rfl, HA2.out⟩
        · obtain rfl : d = false := by
            rw [HD.out]
            have := mt HZ.out.1 (fun h => hx (h i (by omega)))
            simp [this]
          have hx1 : ¬ (dig ds i : Int) = 0 := by omega
          clear hc HA hx HD HZ
          generalize dig ds i = x at *
          generalize ds.length = n at *
          go_wp2_with fail
          go_ret
          exact ⟨rfl, rfl⟩
      · obtain rfl : d = true := by
          rw [HD.out]
          have := HZ.out.2 (fun j hj => HA.out j (by omega))
          simp [this]
        clear hc HA HD HZ
        generalize ds.length = n at *
        go_wp2_with fail
        go_ret
        exact ⟨rfl, rfl⟩
end Go.Proofs.YtanbgdhmfjgihaaGreatDoor

/- The document's own digits: which is greater. -/
namespace Go.Proofs.YtanbgdhmfjgihaaGreatDoor
open Go.RowKit

/-- The walk down stands at digit i: above it all are alike. -/
def Alike (xs ys : List Nat) (i : Int) : Prop := ∀ j : Nat, i < j → dig xs j = dig ys j
theorem dgI_nat (ds : List Nat) (k : Nat) : dgI ds k = dig ds k := by unfold dgI; rw [if_neg (by omega)]; congr 1
theorem alike_eq {xs ys : List Nat} {i : Int} (h : Alike xs ys i) (hi : i < 0) : cmpZ (val10 xs) (val10 ys) = 0 := by
  rw [cmpZ_zero]
  have e : vT (xs.length + ys.length) (dig xs) = vT (xs.length + ys.length) (dig ys) := vT_eq _ _ _ (fun j _ => h j (by omega))
  rw [val10_pad xs (by omega), val10_pad ys (by omega)] at e
  rw [e]
theorem alike_lt {xs ys : List Nat} {k : Nat} (hx : Small xs) (h : Alike xs ys k) (hk : dig xs k < dig ys k) : cmpZ (val10 xs) (val10 ys) = -1 := by
  have e := vT_cmp (dig xs) (dig ys) hx k hk (xs.length + ys.length + k + 1) (by omega) (fun j a _ => h j (by omega))
  rw [val10_pad xs (by omega), val10_pad ys (by omega)] at e
  unfold cmpZ; rw [if_pos (by omega)]
theorem alike_gt {xs ys : List Nat} {k : Nat} (hy : Small ys) (h : Alike xs ys k) (hk : dig ys k < dig xs k) : cmpZ (val10 xs) (val10 ys) = 1 := by
  have := alike_lt (xs := ys) (ys := xs) hy (fun j a => (h j a).symm) hk
  rw [cmpZ_swap] at this
  omega

theorem refAtB (v : Value) (ds : List Nat) (k : Nat) (x : Nat) (w : World) (h : Ints w v ds) (hx : Hid (x = dig ds k)) : Calls Tryz.prog 158 #[v, .int .i64 k] w fun e w' => e = .returned (.int .i64 x) ∧ w = w' :=
  (refAt v ds k w h).mono fun _ _ ⟨h1, h2⟩ => ⟨by rw [h1, dgI_nat, hx.out], h2⟩
theorem Ints.form {w : World} {v : Value} {ds : List Nat} (h : Ints w v ds) : ∃ p cap, v = .slice p ds.length cap := by
  rcases h with ⟨rfl, rfl⟩ | ⟨b, off, cap, rfl, _, _⟩
  · exact ⟨_, _, rfl⟩
  · exact ⟨_, _, rfl⟩

set_option maxHeartbeats 1600000 in
theorem refCompare (u v : Value) (xs ys : List Nat) (w : World) (hu : Ints w u xs) (hv : Ints w v ys) (hx : Small xs) (hy : Small ys) (lx : xs.length ≤ 4611686018427387903) (ly : ys.length ≤ 4611686018427387903) (r : Int) (hr : r = cmpZ (val10 xs) (val10 ys)) :
    Calls Tryz.prog 123 #[u, v] w fun e w' => e = .returned (.int .i64 r) ∧ w = w' := by
  obtain ⟨p, cap, eu⟩ := hu.form
  obtain ⟨p2, cap2, ev⟩ := hv.form
  have HU := Lib.hid hu
  have HV := Lib.hid hv
  have HR := Lib.hid hr
  have HX := Lib.hid hx
  have HY := Lib.hid hy
  clear hu hv hr hx hy
  obtain ⟨n, hn⟩ : ∃ n, n = xs.length := ⟨_, rfl⟩
  obtain ⟨m, hm⟩ : ∃ m, m = ys.length := ⟨_, rfl⟩
  rw [← hn] at eu lx
  rw [← hm] at ev ly
  subst eu
  subst ev
  have HN := Lib.hid (And.intro hn hm)
  clear hn hm
  go_enter Tryz.func123, Tryz.ntmps123
  go_wp2_with fail
  go_loopg [5] (n + m + 1) (fun gg s5 wr => ∃ i : Int, i + 1 = gg ∧ i ≤ n + m ∧ s5 = .int .i64 i ∧ wr = w ∧ Aside (Alike xs ys i))
  case atStart => exact ⟨(n : Int) + m, by omega, by omega, by go_num, rfl, fun j hj => by rw [dig_out (by have := HN.out; omega), dig_out (by have := HN.out; omega)]⟩
  case round =>
    obtain ⟨i, hi, hb, rfl, rfl, hall⟩ := hrel
    have HA := Lib.hid hall.out
    clear hall
    by_cases h0 : i ≥ 0
    · obtain ⟨k, rfl⟩ := Int.eq_ofNat_of_zero_le h0
      obtain ⟨x, hx⟩ : ∃ x, x = dig xs k := ⟨_, rfl⟩
      obtain ⟨y, hy⟩ : ∃ y, y = dig ys k := ⟨_, rfl⟩
      have K1 := Lib.hid hx
      have K2 := Lib.hid hy
      rcases Nat.lt_trichotomy x y with h | h | h
      · obtain rfl : r = -1 := by rw [HR.out, alike_lt HX.out HA.out (by rw [← hx, ← hy]; exact h)]
        have h1 : ((x : Int) == (y : Int)) = false := by simp; omega
        have h2 : (x : Int) < y := by omega
        clear hx hy h HA HR
        go_wp2_with (first
          | (go_at_call 158; (with_reducible refine (refAtB _ xs k x _ HU.out K1).mono ?_); rintro e w' ⟨rfl, rfl⟩)
          | (go_at_call 158; (with_reducible refine (refAtB _ ys k y _ HV.out K2).mono ?_); rintro e w' ⟨rfl, rfl⟩))
        go_ret
        exact ⟨rfl, rfl⟩
      · have hall2 : Alike xs ys ((k : Int) - 1) := fun j hj => by
          by_cases e : j = k
          · rw [e, ← hx, ← hy, h]
          · exact HA.out j (by omega)
        have HA2 := Lib.hid hall2
        subst h
        clear hx hy hall2 HA
        go_wp2_with (first
          | (go_at_call 158; (with_reducible refine (refAtB _ xs k x _ HU.out K1).mono ?_); rintro e w' ⟨rfl, rfl⟩)
          | (go_at_call 158; (with_reducible refine (refAtB _ ys k x _ HV.out K2).mono ?_); rintro e w' ⟨rfl, rfl⟩))
        go_roundg (gk - 1)
        case measure => omega
        case rel => exact ⟨(k : Int) - 1, by omega, by omega, by go_num, rfl, HA2.out⟩
      · obtain rfl : r = 1 := by rw [HR.out, alike_gt HY.out HA.out (by rw [← hx, ← hy]; exact h)]
        have h1 : ((x : Int) == (y : Int)) = false := by simp; omega
        have h2 : ¬ (x : Int) < y := by omega
        clear hx hy h HA HR
        go_wp2_with (first
          | (go_at_call 158; (with_reducible refine (refAtB _ xs k x _ HU.out K1).mono ?_); rintro e w' ⟨rfl, rfl⟩)
          | (go_at_call 158; (with_reducible refine (refAtB _ ys k y _ HV.out K2).mono ?_); rintro e w' ⟨rfl, rfl⟩))
        go_ret
        exact ⟨rfl, rfl⟩
    · obtain rfl : r = 0 := by rw [HR.out, alike_eq HA.out (by omega)]
      clear HA HR
      go_wp2_with fail
      go_ret
      exact ⟨rfl, rfl⟩
end Go.Proofs.YtanbgdhmfjgihaaGreatDoor

/- The document's own digits: added. -/
namespace Go.Proofs.YtanbgdhmfjgihaaGreatDoor
open Go.RowKit

theorem info3 : (Tryz.prog.info? 3).map (fun i => (i.zero, i.size, i.bytes)) = some (some (.int .i64 0), 1, 8) := by kernel_rfl

/-- Digits as cells. -/
def cellsOfDigs (ds : List Nat) : List Value := ds.map fun (d : Nat) => Value.int .i64 (d : Int)
theorem cellsOfDigs_len (ds : List Nat) : (cellsOfDigs ds).length = ds.length := by simp [cellsOfDigs]
theorem dig_app_lt {ds : List Nat} {d j : Nat} (h : j < ds.length) : dig (ds ++ [d]) j = dig ds j := by
  simp [dig, List.getD, List.getElem?_append_left h]
theorem dig_app_eq (ds : List Nat) (d : Nat) : dig (ds ++ [d]) ds.length = d := by
  simp [dig, List.getD]
theorem small_app {ds : List Nat} {d : Nat} (h : Small ds) (hd : d ≤ 9) : Small (ds ++ [d]) := by
  intro j
  rcases Nat.lt_trichotomy j ds.length with k | k | k
  · rw [dig_app_lt k]; exact h j
  · rw [k, dig_app_eq]; exact hd
  · rw [dig_out (by simp; omega)]; omega
theorem vT_app (ds : List Nat) (d : Nat) : vT (ds.length + 1) (dig (ds ++ [d])) = vT ds.length (dig ds) + d * 10 ^ ds.length := by
  show vT ds.length (dig (ds ++ [d])) + dig (ds ++ [d]) ds.length * 10 ^ ds.length = _
  rw [vT_eq (dig (ds ++ [d])) (dig ds) ds.length (fun j hj => dig_app_lt hj), dig_app_eq]

theorem ints_of_owns {w : World} {base n : Nat} {v : Value} {ds : List Nat} (h : w.ownsRow base 3 1 v n (cellsOfDigs ds)) (hn : n = ds.length) : Ints w v ds := by
  subst hn
  rcases h.2 with ⟨e, h0⟩ | ⟨g, cap, cur, e, _, hk, _⟩
  · exact .inl ⟨e, List.length_eq_zero_iff.1 h0⟩
  · refine .inr ⟨g, 0, cap, e, fun i hi => ?_, cur, hk⟩
    subst e
    have := h.cellAt i (by omega)
    rw [Nat.zero_add, this]
    unfold cellsOfDigs dig
    rw [List.getElem?_map, List.getElem?_eq_getElem hi]
    simp [List.getD, hi]

/-- How far the sum has come. -/
structure Added (xs ys : List Nat) (i c : Nat) (zs : List Nat) : Prop where
  len : zs.length = i
  small : Small zs
  car : c ≤ 1
  val : vT i (dig zs) + c * 10 ^ i = vT i (dig xs) + vT i (dig ys)
  done : xs.length < i → ys.length < i → c = 0
theorem Added.start (xs ys : List Nat) : Added xs ys 0 0 [] := ⟨rfl, fun j => by simp [dig], by omega, rfl, fun h => absurd h (by omega)⟩
theorem Added.step {xs ys zs : List Nat} {i c n : Nat} (h : Added xs ys i c zs) (hx : Small xs) (hy : Small ys) (hn : n = dig xs i + dig ys i + c) : Added xs ys (i + 1) (n / 10) (zs ++ [n % 10]) := by
  have h1 := hx i
  have h2 := hy i
  have h3 := h.car
  refine ⟨by simp [h.len], small_app h.small (by omega), by omega, ?_, ?_⟩
  · have e := vT_app zs (n % 10)
    rw [h.len] at e
    rw [e]
    show _ = (vT i (dig xs) + dig xs i * 10 ^ i) + (vT i (dig ys) + dig ys i * 10 ^ i)
    have v := h.val
    rw [Nat.pow_succ]
    have e2 : n / 10 * (10 ^ i * 10) = (n / 10 * 10) * 10 ^ i := by rw [Nat.mul_comm (10 ^ i) 10, Nat.mul_assoc]
    have e3 : (n % 10) * 10 ^ i + (n / 10 * 10) * 10 ^ i = n * 10 ^ i := by rw [← Nat.add_mul]; congr 1; omega
    have e4 : n * 10 ^ i = dig xs i * 10 ^ i + dig ys i * 10 ^ i + c * 10 ^ i := by rw [hn, Nat.add_mul, Nat.add_mul]
    omega
  · intro a b
    have d1 := dig_out (ds := xs) (j := i) (by omega)
    have d2 := dig_out (ds := ys) (j := i) (by omega)
    omega
theorem Added.all {xs ys zs : List Nat} {i : Nat} (h : Added xs ys i 0 zs) (hx : xs.length ≤ i) (hy : ys.length ≤ i) : val10 zs = val10 xs + val10 ys := by
  have v := h.val
  rw [val10_pad xs hx, val10_pad ys hy] at v
  unfold val10
  rw [h.len]
  unfold val10 at v
  omega

set_option maxRecDepth 20000 in
set_option maxHeartbeats 1600000 in
theorem refAdd (u v : Value) (xs ys : List Nat) (w : World) (hu : Ints w u xs) (hv : Ints w v ys) (hx : Small xs) (hy : Small ys) (lx : xs.length ≤ 1000000000) (ly : ys.length ≤ 1000000000) :
    Calls Tryz.prog 122 #[u, v] w fun e w' => ∃ z zs, e = .returned z ∧ Ints w' z zs ∧ Small zs ∧ Aside (val10 zs = val10 xs + val10 ys) ∧ zs.length ≤ xs.length + ys.length + 1 ∧ Below w.heap.size w w' := by
  obtain ⟨i0, hi, hz0, hz1, hz2⟩ := info_parts info3
  obtain ⟨p, cap, eu⟩ := hu.form
  obtain ⟨p2, cap2, ev⟩ := hv.form
  have HU := Lib.hid hu
  have HV := Lib.hid hv
  have HX := Lib.hid hx
  have HY := Lib.hid hy
  clear hu hv hx hy
  obtain ⟨n, hn⟩ : ∃ n, n = xs.length := ⟨_, rfl⟩
  obtain ⟨m, hm⟩ : ∃ m, m = ys.length := ⟨_, rfl⟩
  rw [← hn] at eu lx
  rw [← hm] at ev ly
  subst eu
  subst ev
  have HN := Lib.hid (And.intro hn hm)
  rw [← hn, ← hm]
  clear hn hm
  go_enter Tryz.func122, Tryz.ntmps122
  go_wp2_with fail
  go_loopg [5, 6, 7] (n + m + 1) (fun gg s5 s6 s7 wr => ∃ (i c : Nat) (zs : List Nat), i + gg = n + m + 1 ∧ s6 = .int .i64 c ∧ s7 = .int .i64 i ∧ c ≤ 1 ∧ wr.ownsRow w.heap.size 3 1 s5 i (cellsOfDigs zs) ∧ Hid (Added xs ys i c zs) ∧ Below w.heap.size w wr)
  case atStart => exact ⟨0, 0, [], by omega, rfl, rfl, by omega, World.ownsRow_nil _ _ _ _, Lib.hid (Added.start xs ys), Below.refl _ _⟩
  case round =>
    obtain ⟨i, c, zs, hig, rfl, rfl, hc1, hown, HA, hbel⟩ := hrel
    have hsm := HA.out
    have hx9 := HX.out i
    have hy9 := HY.out i
    obtain ⟨x, hx⟩ : ∃ x, x = dig xs i := ⟨_, rfl⟩
    obtain ⟨y, hy⟩ : ∃ y, y = dig ys i := ⟨_, rfl⟩
    rw [← hx] at hx9
    rw [← hy] at hy9
    obtain ⟨t, ht⟩ : ∃ t, t = x + y + c := ⟨_, rfl⟩
    have ht1 : (x : Int) + y + c = t := by omega
    have ht2 : t ≤ 19 := by omega
    have HS : Hid (Added xs ys (i + 1) (t / 10) (zs ++ [t % 10])) := Lib.hid (hsm.step HX.out HY.out (by rw [ht, hx, hy]))
    have K1 := Lib.hid hx
    have K2 := Lib.hid hy
    have U1 := Lib.hid (HU.out.below hbel)
    have V1 := Lib.hid (HV.out.below hbel)
    have hdone : (c : Int) > 0 → i ≤ n + m := fun hc => by
      have := hsm.done
      have hN := HN.out
      omega
    clear hx hy ht hsm
    by_cases h1 : (i : Int) < n
    · go_wp2_with (first
        | (go_at_call 158; (with_reducible refine (refAtB _ xs i x _ U1.out K1).mono ?_); rintro e w' ⟨rfl, rfl⟩)
        | (go_at_call 158; (with_reducible refine (refAtB _ ys i y _ V1.out K2).mono ?_); rintro e w' ⟨rfl, rfl⟩)
        | (at_builtin; refine wpList_append_own _ rfl _ _ 73 rfl w.heap.size 3 i0 (.int .i64 0) 1 8 Tryz.underlying73 hi hz0 hz1 hz2 rfl (by decide) _ _ _ rfl (hown.alloc _) ⟨wr.heap.size, 0, none⟩ 1 1 [.int .i64 ((t : Int) % 10)] rfl rfl ?_ ?_ ?_ ?_ ?_ ?_))
      · intro j u hj
        match j, hj with
        | 0, hj => simp at hj; subst hj; simp [Addr.add]
      · intro u hu; simp at hu; subst hu; rfl
      · unfold maxLen; omega
      · omega
      · have := hbel.size; simp; omega
      · intro v' w1 hown' hgrow _
        have hb' : Below w.heap.size w w1 := (hbel.alloc hbel.size _).grown hgrow (by have := hbel.size; simp; omega) (fun k hk => (hown.lt k hk).1)
        have hown2 : w1.ownsRow w.heap.size 3 1 v' (i + 1) (cellsOfDigs (zs ++ [t % 10])) := by
          unfold cellsOfDigs at hown' ⊢
          simpa using hown'
        clear hown' hgrow hown
        go_wp2_with fail
        go_roundg (gk - 1)
        case measure => omega
        case rel => exact ⟨i + 1, t / 10, zs ++ [t % 10], by omega, by go_num, by go_num, by omega, hown2, HS, hb'⟩
    · by_cases h2 : (i : Int) < m
      · go_wp2_with (first
          | (go_at_call 158; (with_reducible refine (refAtB _ xs i x _ U1.out K1).mono ?_); rintro e w' ⟨rfl, rfl⟩)
          | (go_at_call 158; (with_reducible refine (refAtB _ ys i y _ V1.out K2).mono ?_); rintro e w' ⟨rfl, rfl⟩)
          | (at_builtin; refine wpList_append_own _ rfl _ _ 73 rfl w.heap.size 3 i0 (.int .i64 0) 1 8 Tryz.underlying73 hi hz0 hz1 hz2 rfl (by decide) _ _ _ rfl (hown.alloc _) ⟨wr.heap.size, 0, none⟩ 1 1 [.int .i64 ((t : Int) % 10)] rfl rfl ?_ ?_ ?_ ?_ ?_ ?_))
        · intro j u hj
          match j, hj with
          | 0, hj => simp at hj; subst hj; simp [Addr.add]
        · intro u hu; simp at hu; subst hu; rfl
        · unfold maxLen; omega
        · omega
        · have := hbel.size; simp; omega
        · intro v' w1 hown' hgrow _
          have hb' : Below w.heap.size w w1 := (hbel.alloc hbel.size _).grown hgrow (by have := hbel.size; simp; omega) (fun k hk => (hown.lt k hk).1)
          have hown2 : w1.ownsRow w.heap.size 3 1 v' (i + 1) (cellsOfDigs (zs ++ [t % 10])) := by
            unfold cellsOfDigs at hown' ⊢
            simpa using hown'
          clear hown' hgrow hown
          go_wp2_with fail
          go_roundg (gk - 1)
          case measure => omega
          case rel => exact ⟨i + 1, t / 10, zs ++ [t % 10], by omega, by go_num, by go_num, by omega, hown2, HS, hb'⟩
      · by_cases h3 : (c : Int) > 0
        · go_wp2_with (first
            | (go_at_call 158; (with_reducible refine (refAtB _ xs i x _ U1.out K1).mono ?_); rintro e w' ⟨rfl, rfl⟩)
            | (go_at_call 158; (with_reducible refine (refAtB _ ys i y _ V1.out K2).mono ?_); rintro e w' ⟨rfl, rfl⟩)
            | (at_builtin; refine wpList_append_own _ rfl _ _ 73 rfl w.heap.size 3 i0 (.int .i64 0) 1 8 Tryz.underlying73 hi hz0 hz1 hz2 rfl (by decide) _ _ _ rfl (hown.alloc _) ⟨wr.heap.size, 0, none⟩ 1 1 [.int .i64 ((t : Int) % 10)] rfl rfl ?_ ?_ ?_ ?_ ?_ ?_))
          · intro j u hj
            match j, hj with
            | 0, hj => simp at hj; subst hj; simp [Addr.add]
          · intro u hu; simp at hu; subst hu; rfl
          · unfold maxLen; omega
          · omega
          · have := hbel.size; simp; omega
          · intro v' w1 hown' hgrow _
            have hb' : Below w.heap.size w w1 := (hbel.alloc hbel.size _).grown hgrow (by have := hbel.size; simp; omega) (fun k hk => (hown.lt k hk).1)
            have hown2 : w1.ownsRow w.heap.size 3 1 v' (i + 1) (cellsOfDigs (zs ++ [t % 10])) := by
              unfold cellsOfDigs at hown' ⊢
              simpa using hown'
            clear hown' hgrow hown
            go_wp2_with fail
            go_roundg (gk - 1)
            case measure => omega
            case rel => exact ⟨i + 1, t / 10, zs ++ [t % 10], by omega, by go_num, by go_num, by omega, hown2, HS, hb'⟩
        · obtain rfl : c = 0 := by omega
          have hz := ints_of_owns hown (HA.out.len.symm)
          have hval : Aside (val10 zs = val10 xs + val10 ys) := HA.out.all (by have := HN.out; omega) (by have := HN.out; omega)
          have hlen : zs.length ≤ n + m + 1 := by have := HA.out.len; omega
          have hsmall := HA.out.small
          clear HS K1 K2 hown
          go_wp2_with fail
          go_ret
          exact ⟨_, rfl, zs, hz, hsmall, hval, hlen, hbel⟩
end Go.Proofs.YtanbgdhmfjgihaaGreatDoor
