/- Texts of one kind, one behind the other: each says ahead of itself what it shows. -/
import Derived.Test.YtanbgdhmfjgihaaGreatDoorJas
import Derived.Test.YtanbgdhmfjgihaaGreatDoorJai
import Derived.Maps.AppendAt
import Derived.Shelf.Strconv.Clone
import Derived.Test.YtanbgdhmfjgihaaGreatDoorJap
/- A cursor goes on: pass. -/
namespace Go.Proofs.YtanbgdhmfjgihaaGreatDoor
open Go.RowKit

def CS.go (c : CS) (x : Nat) : CS := match c.d with | 1 => { c with a0 := x } | 2 => { c with a1 := x } | _ => { c with a2 := x }
def CS.up (c : CS) : CS := { c with d := c.d - 1 }
def CS.down (c : CS) (a e : Nat) : CS := match c.d with | 0 => { c with a0 := a, e0 := e, d := 1 } | 1 => { c with a1 := a, e1 := e, d := 2 } | _ => { c with a2 := a, e2 := e, d := 3 }
/-- Cursors over the same list. -/
structure SameList (c c' : CS) : Prop where
  sp : c'.sp = c.sp
  pl : c'.pl = c.pl
  n : c'.n = c.n
  l0 : c'.l0 = c.l0
  l1 : c'.l1 = c.l1
  l2 : c'.l2 = c.l2
theorem CS.go_alike (c : CS) (x : Nat) : SameList c (c.go x) := by unfold CS.go; split <;> exact ⟨rfl, rfl, rfl, rfl, rfl, rfl⟩
theorem CS.up_alike (c : CS) : SameList c c.up := ⟨rfl, rfl, rfl, rfl, rfl, rfl⟩
theorem CS.down_alike (c : CS) (a e : Nat) : SameList c (c.down a e) := by unfold CS.down; split <;> exact ⟨rfl, rfl, rfl, rfl, rfl, rfl⟩
theorem CS.go_d (c : CS) (x : Nat) : (c.go x).d = c.d := by unfold CS.go; split <;> rfl
theorem CS.go_pos (c : CS) (x : Nat) (h1 : 1 ≤ c.d) (h3 : c.d ≤ 3) : (c.go x).pos = x := by
  obtain ⟨sp, pl, n, cl, l0, l1, l2, a0, e0, a1, e1, a2, e2, d⟩ := c
  simp only at h1 h3
  obtain rfl | rfl | rfl : d = 1 ∨ d = 2 ∨ d = 3 := by omega
  · rfl
  · rfl
  · rfl
theorem CS.go_fin (c : CS) (x : Nat) (h1 : 1 ≤ c.d) (h3 : c.d ≤ 3) : (c.go x).fin = c.fin := by
  obtain ⟨sp, pl, n, cl, l0, l1, l2, a0, e0, a1, e1, a2, e2, d⟩ := c
  simp only at h1 h3
  obtain rfl | rfl | rfl : d = 1 ∨ d = 2 ∨ d = 3 := by omega
  · rfl
  · rfl
  · rfl
theorem CS.go_lev (c : CS) (x : Nat) (h1 : 1 ≤ c.d) (h3 : c.d ≤ 3) : (c.go x).lev = c.lev := by
  obtain ⟨sp, pl, n, cl, l0, l1, l2, a0, e0, a1, e1, a2, e2, d⟩ := c
  simp only at h1 h3
  obtain rfl | rfl | rfl : d = 1 ∨ d = 2 ∨ d = 3 := by omega
  · rfl
  · rfl
  · rfl
theorem At.only {W0 W W' : World} {s : SM} {g k : Nat} {c c' : CS} (h : At W0 s W g c k) (a : SameList c c') (b : Only g W W') (B : Cur W' g c') : At W0 s W' g c' k where
  S := by rw [a.sp]; exact h.S
  n := by rw [a.n]; exact h.n
  l := by rw [a.pl]; exact h.l
  h0 := by rw [a.l0]; exact h.h0
  h1 := by rw [a.l1]; exact h.h1
  h2 := by rw [a.l2]; exact h.h2
  hg := h.hg
  b := below_only h.b b h.hg h.b.size
  B := B
theorem only_low {g : Nat} {x y z : World} (h : Only g x y) (k : Low y.heap.size y z) : Only g x z := h.trans (Only.of_low k)

/-- Up. -/
theorem upC {W : World} {g : Nat} {c : CS} (B : Cur W g c) (h3 : c.d ≤ 3) :
    Calls Tryz.prog 24 #[.pointer (some ⟨g, 0, none⟩)] W fun e w' => e = .returned (.bool (decide (1 ≤ c.d))) ∧ Only g W w' ∧ Cur w' g c.up := by
  by_cases h1 : 1 ≤ c.d
  · have c11 := B.c11
    have f11 : W.frozen? ⟨g, 11, none⟩ = false := free_of B _
    have e1 : ((c.d : Int) == 0) = false := by simp; omega
    have e2 : IntKind.i64.wrap ((c.d : Int) - 1) = (c.d : Int) - 1 := IntWalk.i64_in _ (by omega)
    rw [decide_eq_true h1]
    have fin : Only g W (W.setCell ⟨g, 11, none⟩ (.int .i64 ((c.d : Int) - 1))) ∧ Cur (W.setCell ⟨g, 11, none⟩ (.int .i64 ((c.d : Int) - 1))) g c.up := by
      refine ⟨(Only.refl g W).setCell 11 none _, ?_⟩
      have := heap_set B 11 (.int .i64 ((c.d : Int) - 1))
      rw [show (c.d : Int) - 1 = ((c.d - 1 : Nat) : Int) by omega] at this ⊢
      exact this
    have FIN := Lib.hid fin
    clear fin B
    generalize (c.d : Int) = d at *
    go_enter Tryz.func24, Tryz.ntmps24
    go_wp2_with fail
    go_ret
    exact ⟨rfl, FIN.out⟩
  · have hz : c.d = 0 := by omega
    have c11 : W.cell? ⟨g, 11, none⟩ = some (.int .i64 0) := by have := B.c11; rw [hz] at this; exact this
    rw [decide_eq_false h1]
    have fin : Cur W g c.up := by
      have e : c.up = c := by
        obtain ⟨sp, pl, n, cl, l0, l1, l2, a0, e0, a1, e1, a2, e2, d⟩ := c
        simp only at hz
        subst hz
        rfl
      rw [e]; exact B
    have FIN := Lib.hid fin
    clear fin B
    go_enter Tryz.func24, Tryz.ntmps24
    go_wp2_with fail
    go_ret
    exact ⟨rfl, Only.refl _ _, FIN.out⟩
/-- Depth. -/
theorem depthC {W : World} {g : Nat} {c : CS} (B : Cur W g c) :
    Calls Tryz.prog 33 #[.pointer (some ⟨g, 0, none⟩)] W fun e w' => e = .returned (.int .i64 c.d) ∧ w' = W := by
  have c11 := B.c11
  clear B
  go_enter Tryz.func33, Tryz.ntmps33
  go_wp2_with fail
  go_ret
  exact ⟨rfl, rfl⟩

/-- Above the tree, or at an end: pass stays. -/
theorem passNo {W : World} {g : Nat} {F : Value} (h : Calls Tryz.prog 62 #[.pointer (some ⟨g, 0, none⟩)] W fun e w' => e = .returned (.bool false) ∧ Low W.heap.size W w') :
    Calls Tryz.prog 58 #[.pointer (some ⟨g, 0, none⟩), F] W fun e w' => e = .returned (.bool false) ∧ Low W.heap.size W w' := by
  go_enter Tryz.func58, Tryz.ntmps58
  go_wp2_with (go_at_call 62; (with_reducible refine h.mono ?_); rintro e w3 ⟨rfl, hb3⟩)
  go_ret
  exact ⟨rfl, hb3⟩

set_option maxHeartbeats 3200000 in
set_option maxRecDepth 20000 in
theorem passGo1 (g : Nat) (F : Value) (a e r : Nat) (z : Bool) (cs cs' : Array Value) (w : World) (B : w.heap[g]? = some (.cells cs 93)) (k11 : cs[11]? = some (.int .i64 1)) (ka : cs[5]? = some (.int .i64 a)) (kc : cs.setIfInBounds 5 (.int .i64 r) = cs') (k12 : cs'[11]? = some (.int .i64 1))
    (h1 : Calls Tryz.prog 62 #[.pointer (some ⟨g, 0, none⟩)] w fun e w' => e = .returned (.bool true) ∧ Low w.heap.size w w')
    (h2 : ∀ W, Low w.heap.size w W → Calls Tryz.prog 65 #[.pointer (some ⟨g, 0, none⟩)] W fun e' w' => e' = .returned (.agg #[.int .i64 a, .int .i64 e]) ∧ Low W.heap.size W w')
    (h3 : ∀ W, Low w.heap.size w W → Calls Tryz.prog 91 #[.agg #[.int .i64 a, .int .i64 e], F] W fun e' w' => e' = .returned (.int .i64 r) ∧ Low W.heap.size W w')
    (h4 : ∀ W, Only g w W → W.heap[g]? = some (.cells cs' 93) → Calls Tryz.prog 62 #[.pointer (some ⟨g, 0, none⟩)] W fun e' w' => e' = .returned (.bool z) ∧ Low W.heap.size W w') :
    Calls Tryz.prog 58 #[.pointer (some ⟨g, 0, none⟩), F] w fun e w' => e = .returned (.bool z) ∧ Only g w w' ∧ w'.heap[g]? = some (.cells cs' 93) := by
  have H2 := Lib.hid h2
  have H3 := Lib.hid h3
  have H4 := Lib.hid h4
  have HC := Lib.hid kc
  have HK := Lib.hid k11
  have HK2 := Lib.hid ka
  have HK3 := Lib.hid k12
  clear h2 h3 h4 kc k11 ka k12
  go_enter Tryz.func58, Tryz.ntmps58
  go_upto_region 3 with (go_at_call 62; (with_reducible refine h1.mono ?_); rintro e0 w2 ⟨rfl, l1⟩)
  replace l1 := l1.drew
  have B1 := (l1.block _ (lt_of_heap B)).trans B
  have q11 : w2.drew.cell? ⟨g, 11, none⟩ = some (.int .i64 1) := cell_of B1 11 HK.out
  refine wp_region_held_drew (S := fun W => W.cell? ⟨g, 11, none⟩ = some (.int .i64 1)) (by kernel_rfl) q11 (fun hHeld => ?_)
  refine wpAnyH_take (i := 0) (v := .pointer (some ⟨g, 0, none⟩)) rfl (by kernel_rfl) (by kernel_rfl) (by kernel_rfl) (fun _ _ _ h => h) (Or.inl ⟨by rfl, fun W _ => by go_simp⟩) hHeld ?_
  try simp only [Act.put, List.getElem_toArray, List.getElem_cons_zero, List.setIfInBounds_toArray, List.set_cons_zero, List.set_cons_succ]
  refine wpAnyH_take (i := 1) (v := .pointer (some ⟨g, 0, none⟩)) rfl (by kernel_rfl) (by kernel_rfl) (by kernel_rfl) (fun _ _ _ h => h) (Or.inl ⟨by rfl, fun W _ => by go_simp⟩) hHeld ?_
  try simp only [Act.put, List.getElem_toArray, List.getElem_cons_succ, List.getElem_cons_zero, List.setIfInBounds_toArray, List.set_cons_zero, List.set_cons_succ]
  refine wpAnyH_take (i := 2) (v := .pointer (some ⟨g, 0, none⟩)) rfl (by kernel_rfl) (by kernel_rfl) (by kernel_rfl) (fun _ _ _ h => h) (Or.inl ⟨by rfl, fun W _ => by go_simp⟩) hHeld ?_
  try simp only [Act.put, List.getElem_toArray, List.getElem_cons_succ, List.getElem_cons_zero, List.setIfInBounds_toArray, List.set_cons_zero, List.set_cons_succ]
  refine wpAnyH_take (i := 3) (v := .pointer (some ⟨g, 11, none⟩)) rfl (by kernel_rfl) (by kernel_rfl) (by kernel_rfl) (fun _ _ _ h => h) (Or.inl ⟨by rfl, fun W _ => by go_simp⟩) hHeld ?_
  try simp only [Act.put, List.getElem_toArray, List.getElem_cons_succ, List.getElem_cons_zero, List.setIfInBounds_toArray, List.set_cons_zero, List.set_cons_succ]
  refine wpAnyH_take (i := 4) (v := .int .i64 1) rfl (by kernel_rfl) (by kernel_rfl) (by kernel_rfl) (fun _ _ _ h => h) (Or.inl ⟨by rfl, fun W h => by have c0 := h; go_simp⟩) hHeld ?_
  try simp only [Act.put, List.getElem_toArray, List.getElem_cons_succ, List.getElem_cons_zero, List.setIfInBounds_toArray, List.set_cons_zero, List.set_cons_succ]
  refine wpAnyH_take (i := 5) (v := .int .i64 0) rfl (by kernel_rfl) (by kernel_rfl) (by kernel_rfl) (fun _ _ _ h => h) (Or.inl ⟨by rfl, fun W _ => by go_simp; try rfl⟩) hHeld ?_
  try simp only [Act.put, List.getElem_toArray, List.getElem_cons_succ, List.getElem_cons_zero, List.setIfInBounds_toArray, List.set_cons_zero, List.set_cons_succ]
  refine wpAnyH_take (i := 6) (v := .pointer (some ⟨g, 0, none⟩)) rfl (by kernel_rfl) (by kernel_rfl) (by kernel_rfl) (fun _ _ _ h => h) (Or.inl ⟨by rfl, fun W _ => by go_simp⟩) hHeld ?_
  try simp only [Act.put, List.getElem_toArray, List.getElem_cons_succ, List.getElem_cons_zero, List.setIfInBounds_toArray, List.set_cons_zero, List.set_cons_succ]
  refine wpAnyH_take (i := 8) (v := F) rfl (by kernel_rfl) (by kernel_rfl) (by kernel_rfl) (fun _ _ _ h => h) (Or.inl ⟨by rfl, fun W _ => by go_simp⟩) hHeld ?_
  try simp only [Act.put, List.getElem_toArray, List.getElem_cons_succ, List.getElem_cons_zero, List.setIfInBounds_toArray, List.set_cons_zero, List.set_cons_succ]
  refine wpAnyH_take (i := 10) (v := .pointer (some ⟨g, 0, none⟩)) rfl (by kernel_rfl) (by kernel_rfl) (by kernel_rfl) (fun _ _ _ h => h) (Or.inl ⟨by rfl, fun W _ => by go_simp⟩) hHeld ?_
  try simp only [Act.put, List.getElem_toArray, List.getElem_cons_succ, List.getElem_cons_zero, List.setIfInBounds_toArray, List.set_cons_zero, List.set_cons_succ]
  refine wpAnyH_take (i := 11) (v := .pointer (some ⟨g, 5, none⟩)) rfl (by kernel_rfl) (by kernel_rfl) (by kernel_rfl) (fun _ _ _ h => h) (Or.inl ⟨by rfl, fun W _ => by go_simp⟩) hHeld ?_
  try simp only [Act.put, List.getElem_toArray, List.getElem_cons_succ, List.getElem_cons_zero, List.setIfInBounds_toArray, List.set_cons_zero, List.set_cons_succ]
  refine wpAnyH_ready (rs := [7]) (by kernel_rfl) (by simp) ?_
  refine AllReadyH.cons rfl (fun K hK => ?_) AllReadyH.nil
  rw [if_pos (by rfl)]
  go_simp
  refine (H2.out _ l1).mono ?_
  rintro e0 w3 ⟨rfl, hb3⟩
  have B2 := (hb3.block _ (lt_of_heap B1)).trans B1
  have l2 := low_any l1 hb3 l1.size
  have q11 : w3.cell? ⟨g, 11, none⟩ = some (.int .i64 1) := cell_of B2 11 (HK.out)
  clear hb3
  refine hK.out _ _ q11 (fun hHeld2 => ?_)
  clear hK K
  try simp only [Act.put, List.getElem_toArray, List.getElem_cons_succ, List.getElem_cons_zero, List.setIfInBounds_toArray, List.set_cons_zero, List.set_cons_succ]
  refine wpAnyH_ready (rs := [9]) (by kernel_rfl) (by simp) ?_
  refine AllReadyH.cons rfl (fun K hK => ?_) AllReadyH.nil
  rw [if_pos (by rfl)]
  go_simp
  refine (H3.out _ l2).mono ?_
  rintro e0 w3 ⟨rfl, hb3⟩
  have B3 := (hb3.block _ (lt_of_heap B2)).trans B2
  have l3 := low_any l2 hb3 l2.size
  have q11 : w3.cell? ⟨g, 11, none⟩ = some (.int .i64 1) := cell_of B3 11 (HK.out)
  clear hb3
  refine hK.out _ _ q11 (fun hHeld3 => ?_)
  clear hK K
  try simp only [Act.put, List.getElem_toArray, List.getElem_cons_succ, List.getElem_cons_zero, List.setIfInBounds_toArray, List.set_cons_zero, List.set_cons_succ]
  refine wpAnyH_take (i := 12) (v := .pointer (some ⟨g, 5, none⟩)) rfl (by kernel_rfl) (by kernel_rfl) (by kernel_rfl) (fun _ _ _ h => h) (Or.inl ⟨by rfl, fun W _ => by go_simp⟩) hHeld3 ?_
  try simp only [Act.put, List.getElem_toArray, List.getElem_cons_succ, List.getElem_cons_zero, List.setIfInBounds_toArray, List.set_cons_zero, List.set_cons_succ]
  refine wpAnyH_take (i := 13) (v := .pointer (some ⟨g, 5, none⟩)) rfl (by kernel_rfl) (by kernel_rfl) (by kernel_rfl) (fun _ _ _ h => h) (Or.inl ⟨by rfl, fun W _ => by go_simp⟩) hHeld3 ?_
  try simp only [Act.put, List.getElem_toArray, List.getElem_cons_succ, List.getElem_cons_zero, List.setIfInBounds_toArray, List.set_cons_zero, List.set_cons_succ]
  refine wpAnyH_ready (rs := [14]) (by kernel_rfl) (by simp) ?_
  refine AllReadyH.cons rfl (fun K hK => ?_) AllReadyH.nil
  have c0 := cell_of B3 5 HK2.out
  have f0 : w3.frozen? ⟨g, 5, none⟩ = false := free_of B3 _
  go_simp
  have hon : Only g w (w3.setCell ⟨g, 5, none⟩ (.int .i64 r)) := (Only.of_low (b := g) l3).setCell 5 none _
  have hcur := heap_set B3 5 (.int .i64 r)
  rw [HC.out] at hcur
  generalize w3.setCell ⟨g, 5, none⟩ (.int .i64 r) = w5 at *
  have q12 : w5.cell? ⟨g, 11, none⟩ = some (.int .i64 1) := cell_of hcur 11 HK3.out
  refine hK.out _ _ q12 (fun _ => ?_)
  clear hK K
  refine wpAnyH_done (by kernel_rfl) ?_ _
  go_wp2_with (go_at_call 62; (with_reducible refine (H4.out _ hon hcur).mono ?_); rintro e0 w6 ⟨rfl, hb6⟩)
  go_ret
  exact ⟨rfl, only_low hon hb6, (hb6.block _ (lt_of_heap hcur)).trans hcur⟩

set_option maxHeartbeats 3200000 in
set_option maxRecDepth 20000 in
theorem passGo2 (g : Nat) (F : Value) (a e r : Nat) (z : Bool) (cs cs' : Array Value) (w : World) (B : w.heap[g]? = some (.cells cs 93)) (k11 : cs[11]? = some (.int .i64 2)) (ka : cs[7]? = some (.int .i64 a)) (kc : cs.setIfInBounds 7 (.int .i64 r) = cs') (k12 : cs'[11]? = some (.int .i64 2))
    (h1 : Calls Tryz.prog 62 #[.pointer (some ⟨g, 0, none⟩)] w fun e w' => e = .returned (.bool true) ∧ Low w.heap.size w w')
    (h2 : ∀ W, Low w.heap.size w W → Calls Tryz.prog 65 #[.pointer (some ⟨g, 0, none⟩)] W fun e' w' => e' = .returned (.agg #[.int .i64 a, .int .i64 e]) ∧ Low W.heap.size W w')
    (h3 : ∀ W, Low w.heap.size w W → Calls Tryz.prog 91 #[.agg #[.int .i64 a, .int .i64 e], F] W fun e' w' => e' = .returned (.int .i64 r) ∧ Low W.heap.size W w')
    (h4 : ∀ W, Only g w W → W.heap[g]? = some (.cells cs' 93) → Calls Tryz.prog 62 #[.pointer (some ⟨g, 0, none⟩)] W fun e' w' => e' = .returned (.bool z) ∧ Low W.heap.size W w') :
    Calls Tryz.prog 58 #[.pointer (some ⟨g, 0, none⟩), F] w fun e w' => e = .returned (.bool z) ∧ Only g w w' ∧ w'.heap[g]? = some (.cells cs' 93) := by
  have H2 := Lib.hid h2
  have H3 := Lib.hid h3
  have H4 := Lib.hid h4
  have HC := Lib.hid kc
  have HK := Lib.hid k11
  have HK2 := Lib.hid ka
  have HK3 := Lib.hid k12
  clear h2 h3 h4 kc k11 ka k12
  go_enter Tryz.func58, Tryz.ntmps58
  go_upto_region 3 with (go_at_call 62; (with_reducible refine h1.mono ?_); rintro e0 w2 ⟨rfl, l1⟩)
  replace l1 := l1.drew
  have B1 := (l1.block _ (lt_of_heap B)).trans B
  have q11 : w2.drew.cell? ⟨g, 11, none⟩ = some (.int .i64 2) := cell_of B1 11 HK.out
  refine wp_region_held_drew (S := fun W => W.cell? ⟨g, 11, none⟩ = some (.int .i64 2)) (by kernel_rfl) q11 (fun hHeld => ?_)
  refine wpAnyH_take (i := 0) (v := .pointer (some ⟨g, 0, none⟩)) rfl (by kernel_rfl) (by kernel_rfl) (by kernel_rfl) (fun _ _ _ h => h) (Or.inl ⟨by rfl, fun W _ => by go_simp⟩) hHeld ?_
  try simp only [Act.put, List.getElem_toArray, List.getElem_cons_zero, List.setIfInBounds_toArray, List.set_cons_zero, List.set_cons_succ]
  refine wpAnyH_take (i := 1) (v := .pointer (some ⟨g, 0, none⟩)) rfl (by kernel_rfl) (by kernel_rfl) (by kernel_rfl) (fun _ _ _ h => h) (Or.inl ⟨by rfl, fun W _ => by go_simp⟩) hHeld ?_
  try simp only [Act.put, List.getElem_toArray, List.getElem_cons_succ, List.getElem_cons_zero, List.setIfInBounds_toArray, List.set_cons_zero, List.set_cons_succ]
  refine wpAnyH_take (i := 2) (v := .pointer (some ⟨g, 0, none⟩)) rfl (by kernel_rfl) (by kernel_rfl) (by kernel_rfl) (fun _ _ _ h => h) (Or.inl ⟨by rfl, fun W _ => by go_simp⟩) hHeld ?_
  try simp only [Act.put, List.getElem_toArray, List.getElem_cons_succ, List.getElem_cons_zero, List.setIfInBounds_toArray, List.set_cons_zero, List.set_cons_succ]
  refine wpAnyH_take (i := 3) (v := .pointer (some ⟨g, 11, none⟩)) rfl (by kernel_rfl) (by kernel_rfl) (by kernel_rfl) (fun _ _ _ h => h) (Or.inl ⟨by rfl, fun W _ => by go_simp⟩) hHeld ?_
  try simp only [Act.put, List.getElem_toArray, List.getElem_cons_succ, List.getElem_cons_zero, List.setIfInBounds_toArray, List.set_cons_zero, List.set_cons_succ]
  refine wpAnyH_take (i := 4) (v := .int .i64 2) rfl (by kernel_rfl) (by kernel_rfl) (by kernel_rfl) (fun _ _ _ h => h) (Or.inl ⟨by rfl, fun W h => by have c0 := h; go_simp⟩) hHeld ?_
  try simp only [Act.put, List.getElem_toArray, List.getElem_cons_succ, List.getElem_cons_zero, List.setIfInBounds_toArray, List.set_cons_zero, List.set_cons_succ]
  refine wpAnyH_take (i := 5) (v := .int .i64 1) rfl (by kernel_rfl) (by kernel_rfl) (by kernel_rfl) (fun _ _ _ h => h) (Or.inl ⟨by rfl, fun W _ => by go_simp; try rfl⟩) hHeld ?_
  try simp only [Act.put, List.getElem_toArray, List.getElem_cons_succ, List.getElem_cons_zero, List.setIfInBounds_toArray, List.set_cons_zero, List.set_cons_succ]
  refine wpAnyH_take (i := 6) (v := .pointer (some ⟨g, 0, none⟩)) rfl (by kernel_rfl) (by kernel_rfl) (by kernel_rfl) (fun _ _ _ h => h) (Or.inl ⟨by rfl, fun W _ => by go_simp⟩) hHeld ?_
  try simp only [Act.put, List.getElem_toArray, List.getElem_cons_succ, List.getElem_cons_zero, List.setIfInBounds_toArray, List.set_cons_zero, List.set_cons_succ]
  refine wpAnyH_take (i := 8) (v := F) rfl (by kernel_rfl) (by kernel_rfl) (by kernel_rfl) (fun _ _ _ h => h) (Or.inl ⟨by rfl, fun W _ => by go_simp⟩) hHeld ?_
  try simp only [Act.put, List.getElem_toArray, List.getElem_cons_succ, List.getElem_cons_zero, List.setIfInBounds_toArray, List.set_cons_zero, List.set_cons_succ]
  refine wpAnyH_take (i := 10) (v := .pointer (some ⟨g, 0, none⟩)) rfl (by kernel_rfl) (by kernel_rfl) (by kernel_rfl) (fun _ _ _ h => h) (Or.inl ⟨by rfl, fun W _ => by go_simp⟩) hHeld ?_
  try simp only [Act.put, List.getElem_toArray, List.getElem_cons_succ, List.getElem_cons_zero, List.setIfInBounds_toArray, List.set_cons_zero, List.set_cons_succ]
  refine wpAnyH_take (i := 11) (v := .pointer (some ⟨g, 5, none⟩)) rfl (by kernel_rfl) (by kernel_rfl) (by kernel_rfl) (fun _ _ _ h => h) (Or.inl ⟨by rfl, fun W _ => by go_simp⟩) hHeld ?_
  try simp only [Act.put, List.getElem_toArray, List.getElem_cons_succ, List.getElem_cons_zero, List.setIfInBounds_toArray, List.set_cons_zero, List.set_cons_succ]
  refine wpAnyH_ready (rs := [7]) (by kernel_rfl) (by simp) ?_
  refine AllReadyH.cons rfl (fun K hK => ?_) AllReadyH.nil
  rw [if_pos (by rfl)]
  go_simp
  refine (H2.out _ l1).mono ?_
  rintro e0 w3 ⟨rfl, hb3⟩
  have B2 := (hb3.block _ (lt_of_heap B1)).trans B1
  have l2 := low_any l1 hb3 l1.size
  have q11 : w3.cell? ⟨g, 11, none⟩ = some (.int .i64 2) := cell_of B2 11 (HK.out)
  clear hb3
  refine hK.out _ _ q11 (fun hHeld2 => ?_)
  clear hK K
  try simp only [Act.put, List.getElem_toArray, List.getElem_cons_succ, List.getElem_cons_zero, List.setIfInBounds_toArray, List.set_cons_zero, List.set_cons_succ]
  refine wpAnyH_ready (rs := [9]) (by kernel_rfl) (by simp) ?_
  refine AllReadyH.cons rfl (fun K hK => ?_) AllReadyH.nil
  rw [if_pos (by rfl)]
  go_simp
  refine (H3.out _ l2).mono ?_
  rintro e0 w3 ⟨rfl, hb3⟩
  have B3 := (hb3.block _ (lt_of_heap B2)).trans B2
  have l3 := low_any l2 hb3 l2.size
  have q11 : w3.cell? ⟨g, 11, none⟩ = some (.int .i64 2) := cell_of B3 11 (HK.out)
  clear hb3
  refine hK.out _ _ q11 (fun hHeld3 => ?_)
  clear hK K
  try simp only [Act.put, List.getElem_toArray, List.getElem_cons_succ, List.getElem_cons_zero, List.setIfInBounds_toArray, List.set_cons_zero, List.set_cons_succ]
  refine wpAnyH_take (i := 12) (v := .pointer (some ⟨g, 7, none⟩)) rfl (by kernel_rfl) (by kernel_rfl) (by kernel_rfl) (fun _ _ _ h => h) (Or.inl ⟨by rfl, fun W _ => by go_simp⟩) hHeld3 ?_
  try simp only [Act.put, List.getElem_toArray, List.getElem_cons_succ, List.getElem_cons_zero, List.setIfInBounds_toArray, List.set_cons_zero, List.set_cons_succ]
  refine wpAnyH_take (i := 13) (v := .pointer (some ⟨g, 7, none⟩)) rfl (by kernel_rfl) (by kernel_rfl) (by kernel_rfl) (fun _ _ _ h => h) (Or.inl ⟨by rfl, fun W _ => by go_simp⟩) hHeld3 ?_
  try simp only [Act.put, List.getElem_toArray, List.getElem_cons_succ, List.getElem_cons_zero, List.setIfInBounds_toArray, List.set_cons_zero, List.set_cons_succ]
  refine wpAnyH_ready (rs := [14]) (by kernel_rfl) (by simp) ?_
  refine AllReadyH.cons rfl (fun K hK => ?_) AllReadyH.nil
  have c0 := cell_of B3 7 HK2.out
  have f0 : w3.frozen? ⟨g, 7, none⟩ = false := free_of B3 _
  go_simp
  have hon : Only g w (w3.setCell ⟨g, 7, none⟩ (.int .i64 r)) := (Only.of_low (b := g) l3).setCell 7 none _
  have hcur := heap_set B3 7 (.int .i64 r)
  rw [HC.out] at hcur
  generalize w3.setCell ⟨g, 7, none⟩ (.int .i64 r) = w5 at *
  have q12 : w5.cell? ⟨g, 11, none⟩ = some (.int .i64 2) := cell_of hcur 11 HK3.out
  refine hK.out _ _ q12 (fun _ => ?_)
  clear hK K
  refine wpAnyH_done (by kernel_rfl) ?_ _
  go_wp2_with (go_at_call 62; (with_reducible refine (H4.out _ hon hcur).mono ?_); rintro e0 w6 ⟨rfl, hb6⟩)
  go_ret
  exact ⟨rfl, only_low hon hb6, (hb6.block _ (lt_of_heap hcur)).trans hcur⟩

set_option maxHeartbeats 3200000 in
set_option maxRecDepth 20000 in
theorem passGo3 (g : Nat) (F : Value) (a e r : Nat) (z : Bool) (cs cs' : Array Value) (w : World) (B : w.heap[g]? = some (.cells cs 93)) (k11 : cs[11]? = some (.int .i64 3)) (ka : cs[9]? = some (.int .i64 a)) (kc : cs.setIfInBounds 9 (.int .i64 r) = cs') (k12 : cs'[11]? = some (.int .i64 3))
    (h1 : Calls Tryz.prog 62 #[.pointer (some ⟨g, 0, none⟩)] w fun e w' => e = .returned (.bool true) ∧ Low w.heap.size w w')
    (h2 : ∀ W, Low w.heap.size w W → Calls Tryz.prog 65 #[.pointer (some ⟨g, 0, none⟩)] W fun e' w' => e' = .returned (.agg #[.int .i64 a, .int .i64 e]) ∧ Low W.heap.size W w')
    (h3 : ∀ W, Low w.heap.size w W → Calls Tryz.prog 91 #[.agg #[.int .i64 a, .int .i64 e], F] W fun e' w' => e' = .returned (.int .i64 r) ∧ Low W.heap.size W w')
    (h4 : ∀ W, Only g w W → W.heap[g]? = some (.cells cs' 93) → Calls Tryz.prog 62 #[.pointer (some ⟨g, 0, none⟩)] W fun e' w' => e' = .returned (.bool z) ∧ Low W.heap.size W w') :
    Calls Tryz.prog 58 #[.pointer (some ⟨g, 0, none⟩), F] w fun e w' => e = .returned (.bool z) ∧ Only g w w' ∧ w'.heap[g]? = some (.cells cs' 93) := by
  have H2 := Lib.hid h2
  have H3 := Lib.hid h3
  have H4 := Lib.hid h4
  have HC := Lib.hid kc
  have HK := Lib.hid k11
  have HK2 := Lib.hid ka
  have HK3 := Lib.hid k12
  clear h2 h3 h4 kc k11 ka k12
  go_enter Tryz.func58, Tryz.ntmps58
  go_upto_region 3 with (go_at_call 62; (with_reducible refine h1.mono ?_); rintro e0 w2 ⟨rfl, l1⟩)
  replace l1 := l1.drew
  have B1 := (l1.block _ (lt_of_heap B)).trans B
  have q11 : w2.drew.cell? ⟨g, 11, none⟩ = some (.int .i64 3) := cell_of B1 11 HK.out
  refine wp_region_held_drew (S := fun W => W.cell? ⟨g, 11, none⟩ = some (.int .i64 3)) (by kernel_rfl) q11 (fun hHeld => ?_)
  refine wpAnyH_take (i := 0) (v := .pointer (some ⟨g, 0, none⟩)) rfl (by kernel_rfl) (by kernel_rfl) (by kernel_rfl) (fun _ _ _ h => h) (Or.inl ⟨by rfl, fun W _ => by go_simp⟩) hHeld ?_
  try simp only [Act.put, List.getElem_toArray, List.getElem_cons_zero, List.setIfInBounds_toArray, List.set_cons_zero, List.set_cons_succ]
  refine wpAnyH_take (i := 1) (v := .pointer (some ⟨g, 0, none⟩)) rfl (by kernel_rfl) (by kernel_rfl) (by kernel_rfl) (fun _ _ _ h => h) (Or.inl ⟨by rfl, fun W _ => by go_simp⟩) hHeld ?_
  try simp only [Act.put, List.getElem_toArray, List.getElem_cons_succ, List.getElem_cons_zero, List.setIfInBounds_toArray, List.set_cons_zero, List.set_cons_succ]
  refine wpAnyH_take (i := 2) (v := .pointer (some ⟨g, 0, none⟩)) rfl (by kernel_rfl) (by kernel_rfl) (by kernel_rfl) (fun _ _ _ h => h) (Or.inl ⟨by rfl, fun W _ => by go_simp⟩) hHeld ?_
  try simp only [Act.put, List.getElem_toArray, List.getElem_cons_succ, List.getElem_cons_zero, List.setIfInBounds_toArray, List.set_cons_zero, List.set_cons_succ]
  refine wpAnyH_take (i := 3) (v := .pointer (some ⟨g, 11, none⟩)) rfl (by kernel_rfl) (by kernel_rfl) (by kernel_rfl) (fun _ _ _ h => h) (Or.inl ⟨by rfl, fun W _ => by go_simp⟩) hHeld ?_
  try simp only [Act.put, List.getElem_toArray, List.getElem_cons_succ, List.getElem_cons_zero, List.setIfInBounds_toArray, List.set_cons_zero, List.set_cons_succ]
  refine wpAnyH_take (i := 4) (v := .int .i64 3) rfl (by kernel_rfl) (by kernel_rfl) (by kernel_rfl) (fun _ _ _ h => h) (Or.inl ⟨by rfl, fun W h => by have c0 := h; go_simp⟩) hHeld ?_
  try simp only [Act.put, List.getElem_toArray, List.getElem_cons_succ, List.getElem_cons_zero, List.setIfInBounds_toArray, List.set_cons_zero, List.set_cons_succ]
  refine wpAnyH_take (i := 5) (v := .int .i64 2) rfl (by kernel_rfl) (by kernel_rfl) (by kernel_rfl) (fun _ _ _ h => h) (Or.inl ⟨by rfl, fun W _ => by go_simp; try rfl⟩) hHeld ?_
  try simp only [Act.put, List.getElem_toArray, List.getElem_cons_succ, List.getElem_cons_zero, List.setIfInBounds_toArray, List.set_cons_zero, List.set_cons_succ]
  refine wpAnyH_take (i := 6) (v := .pointer (some ⟨g, 0, none⟩)) rfl (by kernel_rfl) (by kernel_rfl) (by kernel_rfl) (fun _ _ _ h => h) (Or.inl ⟨by rfl, fun W _ => by go_simp⟩) hHeld ?_
  try simp only [Act.put, List.getElem_toArray, List.getElem_cons_succ, List.getElem_cons_zero, List.setIfInBounds_toArray, List.set_cons_zero, List.set_cons_succ]
  refine wpAnyH_take (i := 8) (v := F) rfl (by kernel_rfl) (by kernel_rfl) (by kernel_rfl) (fun _ _ _ h => h) (Or.inl ⟨by rfl, fun W _ => by go_simp⟩) hHeld ?_
  try simp only [Act.put, List.getElem_toArray, List.getElem_cons_succ, List.getElem_cons_zero, List.setIfInBounds_toArray, List.set_cons_zero, List.set_cons_succ]
  refine wpAnyH_take (i := 10) (v := .pointer (some ⟨g, 0, none⟩)) rfl (by kernel_rfl) (by kernel_rfl) (by kernel_rfl) (fun _ _ _ h => h) (Or.inl ⟨by rfl, fun W _ => by go_simp⟩) hHeld ?_
  try simp only [Act.put, List.getElem_toArray, List.getElem_cons_succ, List.getElem_cons_zero, List.setIfInBounds_toArray, List.set_cons_zero, List.set_cons_succ]
  refine wpAnyH_take (i := 11) (v := .pointer (some ⟨g, 5, none⟩)) rfl (by kernel_rfl) (by kernel_rfl) (by kernel_rfl) (fun _ _ _ h => h) (Or.inl ⟨by rfl, fun W _ => by go_simp⟩) hHeld ?_
  try simp only [Act.put, List.getElem_toArray, List.getElem_cons_succ, List.getElem_cons_zero, List.setIfInBounds_toArray, List.set_cons_zero, List.set_cons_succ]
  refine wpAnyH_ready (rs := [7]) (by kernel_rfl) (by simp) ?_
  refine AllReadyH.cons rfl (fun K hK => ?_) AllReadyH.nil
  rw [if_pos (by rfl)]
  go_simp
  refine (H2.out _ l1).mono ?_
  rintro e0 w3 ⟨rfl, hb3⟩
  have B2 := (hb3.block _ (lt_of_heap B1)).trans B1
  have l2 := low_any l1 hb3 l1.size
  have q11 : w3.cell? ⟨g, 11, none⟩ = some (.int .i64 3) := cell_of B2 11 (HK.out)
  clear hb3
  refine hK.out _ _ q11 (fun hHeld2 => ?_)
  clear hK K
  try simp only [Act.put, List.getElem_toArray, List.getElem_cons_succ, List.getElem_cons_zero, List.setIfInBounds_toArray, List.set_cons_zero, List.set_cons_succ]
  refine wpAnyH_ready (rs := [9]) (by kernel_rfl) (by simp) ?_
  refine AllReadyH.cons rfl (fun K hK => ?_) AllReadyH.nil
  rw [if_pos (by rfl)]
  go_simp
  refine (H3.out _ l2).mono ?_
  rintro e0 w3 ⟨rfl, hb3⟩
  have B3 := (hb3.block _ (lt_of_heap B2)).trans B2
  have l3 := low_any l2 hb3 l2.size
  have q11 : w3.cell? ⟨g, 11, none⟩ = some (.int .i64 3) := cell_of B3 11 (HK.out)
  clear hb3
  refine hK.out _ _ q11 (fun hHeld3 => ?_)
  clear hK K
  try simp only [Act.put, List.getElem_toArray, List.getElem_cons_succ, List.getElem_cons_zero, List.setIfInBounds_toArray, List.set_cons_zero, List.set_cons_succ]
  refine wpAnyH_take (i := 12) (v := .pointer (some ⟨g, 9, none⟩)) rfl (by kernel_rfl) (by kernel_rfl) (by kernel_rfl) (fun _ _ _ h => h) (Or.inl ⟨by rfl, fun W _ => by go_simp⟩) hHeld3 ?_
  try simp only [Act.put, List.getElem_toArray, List.getElem_cons_succ, List.getElem_cons_zero, List.setIfInBounds_toArray, List.set_cons_zero, List.set_cons_succ]
  refine wpAnyH_take (i := 13) (v := .pointer (some ⟨g, 9, none⟩)) rfl (by kernel_rfl) (by kernel_rfl) (by kernel_rfl) (fun _ _ _ h => h) (Or.inl ⟨by rfl, fun W _ => by go_simp⟩) hHeld3 ?_
  try simp only [Act.put, List.getElem_toArray, List.getElem_cons_succ, List.getElem_cons_zero, List.setIfInBounds_toArray, List.set_cons_zero, List.set_cons_succ]
  refine wpAnyH_ready (rs := [14]) (by kernel_rfl) (by simp) ?_
  refine AllReadyH.cons rfl (fun K hK => ?_) AllReadyH.nil
  have c0 := cell_of B3 9 HK2.out
  have f0 : w3.frozen? ⟨g, 9, none⟩ = false := free_of B3 _
  go_simp
  have hon : Only g w (w3.setCell ⟨g, 9, none⟩ (.int .i64 r)) := (Only.of_low (b := g) l3).setCell 9 none _
  have hcur := heap_set B3 9 (.int .i64 r)
  rw [HC.out] at hcur
  generalize w3.setCell ⟨g, 9, none⟩ (.int .i64 r) = w5 at *
  have q12 : w5.cell? ⟨g, 11, none⟩ = some (.int .i64 3) := cell_of hcur 11 HK3.out
  refine hK.out _ _ q12 (fun _ => ?_)
  clear hK K
  refine wpAnyH_done (by kernel_rfl) ?_ _
  go_wp2_with (go_at_call 62; (with_reducible refine (H4.out _ hon hcur).mono ?_); rintro e0 w6 ⟨rfl, hb6⟩)
  go_ret
  exact ⟨rfl, only_low hon hb6, (hb6.block _ (lt_of_heap hcur)).trans hcur⟩
end Go.Proofs.YtanbgdhmfjgihaaGreatDoor

/- Values in one another, in blocks of one's own: where they lie, said with the blocks that hold them; a row of values that one owns. -/
namespace Go.Proofs.YtanbgdhmfjgihaaGreatDoor
open Go.RowKit

mutual
/-- A value's six cells lie from off on; all lists in it lie in blocks of P. -/
def HoldsOneF (w : World) (P : Nat → Prop) (g off : Nat) : Val → Prop
  | .mk k b n t x l => w.cell? ⟨g, off, none⟩ = some (.int .i64 k) ∧ w.cell? ⟨g, off + 1, none⟩ = some (.bool b) ∧ w.cell? ⟨g, off + 2, none⟩ = some (.int .i64 n) ∧
    w.cell? ⟨g, off + 3, none⟩ = some (.string t) ∧ w.cell? ⟨g, off + 4, none⟩ = some (.string x) ∧ Fine n t x l.length ∧
    ∃ L, w.cell? ⟨g, off + 5, none⟩ = some L ∧ HeldF w P L l
/-- A slice whose elements are these, in blocks of P. -/
def HeldF (w : World) (P : Nat → Prop) (L : Value) : List Val → Prop
  | [] => ∃ p cap, L = .slice p 0 cap
  | v :: r => ∃ g off cap, L = .slice (some ⟨g, off, none⟩) (r.length + 1) cap ∧ P g ∧ HoldsOneF w P g off v ∧ HoldsF w P g (off + 6) r
/-- Values one behind the other from off on; all lists in them lie in blocks of P. -/
def HoldsF (w : World) (P : Nat → Prop) (g off : Nat) : List Val → Prop
  | [] => True
  | v :: r => HoldsOneF w P g off v ∧ HoldsF w P g (off + 6) r
end
mutual
theorem HoldsOneF.held {w : World} {P : Nat → Prop} {g off : Nat} : (v : Val) → HoldsOneF w P g off v → HoldsOne w g off v
  | .mk k b n t x l, h => by
    unfold HoldsOneF at h
    unfold HoldsOne
    obtain ⟨h0, h1, h2, h3, h4, hf, L, h5, hl⟩ := h
    exact ⟨h0, h1, h2, h3, h4, hf, L, h5, HeldF.held l hl⟩
theorem HeldF.held {w : World} {P : Nat → Prop} {L : Value} : (l : List Val) → HeldF w P L l → Held w L l
  | [], h => by
    unfold HeldF at h
    unfold Held
    exact h
  | v :: r, h => by
    unfold HeldF at h
    unfold Held
    obtain ⟨g, off, cap, e, _, hv, hr⟩ := h
    exact ⟨g, off, cap, e, HoldsOneF.held v hv, HoldsF.held r hr⟩
theorem HoldsF.held {w : World} {P : Nat → Prop} {g off : Nat} : (l : List Val) → HoldsF w P g off l → Holds w g off l
  | [], _ => by unfold Holds; trivial
  | v :: r, h => by
    unfold HoldsF at h
    unfold Holds
    exact ⟨HoldsOneF.held v h.1, HoldsF.held r h.2⟩
end
/-- All blocks of P are blocks of P', and are as they were. -/
def Stays (P P' : Nat → Prop) (w w' : World) : Prop := ∀ g, P g → P' g ∧ w'.heap[g]? = w.heap[g]?
theorem Stays.cell {P P' : Nat → Prop} {w w' : World} (h : Stays P P' w w') {g : Nat} (hg : P g) (o : Nat) {v : Value} (hv : w.cell? ⟨g, o, none⟩ = some v) : w'.cell? ⟨g, o, none⟩ = some v :=
  (World.cell?_of_block (w := w) (a := ⟨g, o, none⟩) (h g hg).2).trans hv
mutual
theorem HoldsOneF.stays {w w' : World} {P P' : Nat → Prop} {g off : Nat} (s : Stays P P' w w') (hg : P g) : (v : Val) → HoldsOneF w P g off v → HoldsOneF w' P' g off v
  | .mk k b n t x l, h => by
    unfold HoldsOneF at h ⊢
    obtain ⟨h0, h1, h2, h3, h4, hf, L, h5, hl⟩ := h
    exact ⟨s.cell hg _ h0, s.cell hg _ h1, s.cell hg _ h2, s.cell hg _ h3, s.cell hg _ h4, hf, L, s.cell hg _ h5, HeldF.stays s l hl⟩
theorem HeldF.stays {w w' : World} {P P' : Nat → Prop} {L : Value} (s : Stays P P' w w') : (l : List Val) → HeldF w P L l → HeldF w' P' L l
  | [], h => by
    unfold HeldF at h ⊢
    exact h
  | v :: r, h => by
    unfold HeldF at h ⊢
    obtain ⟨g, off, cap, e, hg, hv, hr⟩ := h
    exact ⟨g, off, cap, e, (s g hg).1, HoldsOneF.stays s hg v hv, HoldsF.stays s hg r hr⟩
theorem HoldsF.stays {w w' : World} {P P' : Nat → Prop} {g off : Nat} (s : Stays P P' w w') (hg : P g) : (l : List Val) → HoldsF w P g off l → HoldsF w' P' g off l
  | [], _ => by unfold HoldsF; trivial
  | v :: r, h => by
    unfold HoldsF at h ⊢
    exact ⟨HoldsOneF.stays s hg v h.1, HoldsF.stays s hg r h.2⟩
end
/-- Cells, six a value; all lists in them lie in blocks of P. -/
def CellsF (w : World) (P : Nat → Prop) : List Value → List Val → Prop
  | xs, [] => xs = []
  | xs, .mk k b n t x q :: r => ∃ L ys, xs = .int .i64 k :: .bool b :: .int .i64 n :: .string t :: .string x :: L :: ys ∧ Fine n t x q.length ∧ HeldF w P L q ∧ CellsF w P ys r
theorem CellsF.stays {w w' : World} {P P' : Nat → Prop} (s : Stays P P' w w') : {xs : List Value} → (l : List Val) → CellsF w P xs l → CellsF w' P' xs l
  | _, [], h => by unfold CellsF at h ⊢; exact h
  | _, .mk k b n t x q :: l, h => by
    unfold CellsF at h ⊢
    obtain ⟨L, zs, rfl, hf, hq, hr⟩ := h
    exact ⟨L, zs, rfl, hf, HeldF.stays s q hq, CellsF.stays s l hr⟩
theorem CellsF.one {w : World} {P : Nat → Prop} {k : Int} {b : Bool} {n : Int} {t x : ByteArray} {q : List Val} {L : Value} (hf : Fine n t x q.length) (hq : HeldF w P L q) : CellsF w P [.int .i64 k, .bool b, .int .i64 n, .string t, .string x, L] [.mk k b n t x q] := by
  unfold CellsF
  exact ⟨L, [], rfl, hf, hq, by unfold CellsF; rfl⟩
theorem CellsF.holds {w : World} {P : Nat → Prop} {g : Nat} : {xs : List Value} → (l : List Val) → (off : Nat) → CellsF w P xs l → (∀ (j : Nat) u, xs[j]? = some u → w.cell? ⟨g, off + j, none⟩ = some u) → HoldsF w P g off l
  | _, [], _, _, _ => by unfold HoldsF; trivial
  | _, .mk k b n t x q :: l, off, h, hc => by
    unfold CellsF at h
    obtain ⟨L, zs, rfl, hf, hq, hr⟩ := h
    unfold HoldsF HoldsOneF
    refine ⟨⟨hc 0 _ rfl, hc 1 _ rfl, hc 2 _ rfl, hc 3 _ rfl, hc 4 _ rfl, hf, L, hc 5 _ rfl, hq⟩, CellsF.holds l (off + 6) hr fun j u hj => ?_⟩
    have := hc (j + 6) u hj
    rw [show off + 6 + j = off + (j + 6) by omega]
    exact this
end Go.Proofs.YtanbgdhmfjgihaaGreatDoor

/- The library's copying of a string, by the library's own contract. -/
namespace Go.Proofs
open Go.Shelf
def Tryz.laysM316_ren : Go.Shelf.Ren := ⟨fun | 316 => 119 | n => n, fun | 9 => 9 | 3 => 3 | 4 => 4 | 37 => 163 | 0 => 0 | 127 => 190 | 5 => 5 | n => n, fun | n => n⟩
theorem Tryz.laysM316 : Go.Proofs.LaysM.n316 Tryz.prog Tryz.laysM316_ren := {
  mixed := by kernel_rfl
  f316 := Tryz.func119.trans (congrArg some (by kernel_rfl))
  t0 := Tryz.underlying0
  a0 := Tryz.isAgg0
  z0 := Tryz.sizeOf0
  v0 := Tryz.zeroValue0
  t3 := Tryz.underlying3
  a3 := Tryz.isAgg3
  z3 := Tryz.sizeOf3
  v3 := Tryz.zeroValue3
  t4 := Tryz.underlying4
  a4 := Tryz.isAgg4
  z4 := Tryz.sizeOf4
  v4 := Tryz.zeroValue4
  t9 := Tryz.underlying9
  a9 := Tryz.isAgg9
  z9 := Tryz.sizeOf9
  v9 := Tryz.zeroValue9
  t37 := Tryz.underlying163
  a37 := Tryz.isAgg163
  z37 := Tryz.sizeOf163
  v37 := Tryz.zeroValue163
  t127 := Tryz.underlying190
  a127 := Tryz.isAgg190
  z127 := Tryz.sizeOf190
  v127 := Tryz.zeroValue190
  t5 := Tryz.underlying5
  a5 := Tryz.isAgg5
  z5 := Tryz.sizeOf5
  v5 := Tryz.zeroValue5
  i0 := by kernel_rfl
  i3 := by kernel_rfl
  i4 := by kernel_rfl
  i5 := by kernel_rfl
  i9 := by kernel_rfl
  i37 := by kernel_rfl
  i127 := by kernel_rfl }
namespace YtanbgdhmfjgihaaGreatDoor
open Go.RowKit
theorem slClone (s : ByteArray) (w : World) (h2 : s.size ≤ 281474976710656) : Calls Tryz.prog 119 #[.string s] w fun e w' => e = .returned (.string s) ∧ Below w.heap.size w w' := Any.stringslite_Clone Tryz.laysM316 s w h2
theorem cloneAt (s : ByteArray) (w : World) (h2 : s.size ≤ 281474976710656) :
    Calls Tryz.prog 94 #[.string s] w fun e w' => e = .returned (.string s) ∧ Below w.heap.size w w' := by
  go_enter Tryz.func94, Tryz.ntmps94
  go_wp2_with (go_at_call 119; (with_reducible refine (slClone s _ h2).mono ?_); rintro e w' ⟨rfl, hb⟩)
  go_ret
  exact ⟨rfl, hb⟩
end YtanbgdhmfjgihaaGreatDoor
end Go.Proofs

/- own: a value in new memory. -/
namespace Go.Proofs.YtanbgdhmfjgihaaGreatDoor
open Go.RowKit

set_option maxHeartbeats 3200000 in
set_option maxRecDepth 20000 in
theorem ownAt (k : Int) (b : Bool) (n : Int) (t x : ByteArray) (p : Option Addr) (len cap : Nat) (w : World) (ht : t.size ≤ 2097152) (hx : x.size ≤ 2097152) :
    Calls Tryz.prog 63 #[.agg #[.int .i64 k, .bool b, .int .i64 n, .string t, .string x, .slice p len cap]] w fun e w' => e = .returned (.agg #[.int .i64 k, .bool b, .int .i64 n, .string t, .string x, .slice none 0 0]) ∧ Below w.heap.size w w' := by
  obtain ⟨w1, hw1⟩ : ∃ w1, w1 = (w.alloc (.cells #[.int .i64 k, .bool b, .int .i64 n, .string t, .string x, .slice p len cap] 39)).alloc (.cells #[.int .i64 0, .bool false, .int .i64 0, .string ⟨#[]⟩, .string ⟨#[]⟩, .slice none 0 0] 39) := ⟨_, rfl⟩
  have u1 : Six w1 w.heap.size k b n t x p len cap := by rw [hw1]; exact (six_new _ rfl).alloc _
  have u2 : Six w1 (w.heap.size + 1) 0 false 0 ⟨#[]⟩ ⟨#[]⟩ none 0 0 := by rw [hw1]; exact six_new _ (by simp)
  have bw : Below w.heap.size w w1 := by rw [hw1]; exact below2 _ _ _
  have HCL := Lib.hid (fun W => cloneAt t W (by omega))
  have HCX := Lib.hid (fun W => cloneAt x W (by omega))
  have HW := Lib.hid hw1
  clear hw1 ht hx
  go_enter Tryz.func63, Tryz.ntmps63
  go_upto_region 1 with fail
  rw [← HW.out]
  refine wp_region_held_drew (S := fun W => ∃ p' n' c', Six W w.heap.size k b n t x p' n' c') (by kernel_rfl) ⟨p, len, cap, u1⟩ (fun hHeld => ?_)
  replace bw := bw.drew
  replace u1 : Six w1.drew w.heap.size k b n t x p len cap := u1
  replace u2 : Six w1.drew (w.heap.size + 1) 0 false 0 ⟨#[]⟩ ⟨#[]⟩ none 0 0 := u2
  refine wpAnyH_take (i := 0) (v := .pointer (some ⟨w.heap.size, 3, none⟩)) rfl (by kernel_rfl) (by kernel_rfl) (by kernel_rfl) (fun _ _ _ h => h) (Or.inl ⟨by rfl, fun W _ => by go_simp⟩) hHeld ?_
  try simp only [Act.put, List.getElem_toArray, List.getElem_cons_zero, List.setIfInBounds_toArray, List.set_cons_zero, List.set_cons_succ]
  refine wpAnyH_take (i := 3) (v := .pointer (some ⟨w.heap.size, 4, none⟩)) rfl (by kernel_rfl) (by kernel_rfl) (by kernel_rfl) (fun _ _ _ h => h) (Or.inl ⟨by rfl, fun W _ => by go_simp⟩) hHeld ?_
  try simp only [Act.put, List.getElem_toArray, List.getElem_cons_succ, List.getElem_cons_zero, List.setIfInBounds_toArray, List.set_cons_zero, List.set_cons_succ]
  refine wpAnyH_take (i := 1) (v := .string t) rfl (by kernel_rfl) (by kernel_rfl) (by kernel_rfl) (fun _ _ _ h => h) (Or.inl ⟨by rfl, fun W ⟨_, _, _, h⟩ => by have c0 := h.c3; go_simp⟩) hHeld ?_
  try simp only [Act.put, List.getElem_toArray, List.getElem_cons_succ, List.getElem_cons_zero, List.setIfInBounds_toArray, List.set_cons_zero, List.set_cons_succ]
  refine wpAnyH_take (i := 4) (v := .string x) rfl (by kernel_rfl) (by kernel_rfl) (by kernel_rfl) (fun _ _ _ h => h) (Or.inl ⟨by rfl, fun W ⟨_, _, _, h⟩ => by have c0 := h.c4; go_simp⟩) hHeld ?_
  try simp only [Act.put, List.getElem_toArray, List.getElem_cons_succ, List.getElem_cons_zero, List.setIfInBounds_toArray, List.set_cons_zero, List.set_cons_succ]
  clear hHeld
  refine wpAnyH_ready (rs := [2]) (by kernel_rfl) (by simp) ?_
  refine AllReadyH.cons rfl (fun K hK => ?_) AllReadyH.nil
  rw [if_pos (by rfl)]
  go_simp
  refine (HCL.out _).mono ?_
  rintro e0 w3 ⟨rfl, hb3⟩
  replace u1 := u1.below hb3
  replace u2 := u2.below hb3
  replace bw := below_any bw hb3 bw.size
  refine hK.out _ _ ⟨_, _, _, u1⟩ (fun _ => ?_)
  clear hK K hb3
  try simp only [Act.put, List.getElem_toArray, List.getElem_cons_succ, List.getElem_cons_zero, List.setIfInBounds_toArray, List.set_cons_zero, List.set_cons_succ]
  refine wpAnyH_take (i := 6) (v := .pointer (some ⟨w.heap.size, 3, none⟩)) rfl (by kernel_rfl) (by kernel_rfl) (by kernel_rfl) (fun _ _ _ h => h) (Or.inl ⟨by rfl, fun W _ => by go_simp⟩) ⟨_, _, _, u1⟩ ?_
  try simp only [Act.put, List.getElem_toArray, List.getElem_cons_succ, List.getElem_cons_zero, List.setIfInBounds_toArray, List.set_cons_zero, List.set_cons_succ]
  refine wpAnyH_ready (rs := [5]) (by kernel_rfl) (by simp) ?_
  refine AllReadyH.cons rfl (fun K hK => ?_) AllReadyH.nil
  rw [if_pos (by rfl)]
  go_simp
  refine (HCX.out _).mono ?_
  rintro e0 w3 ⟨rfl, hb3⟩
  replace u1 := u1.below hb3
  replace u2 := u2.below hb3
  replace bw := below_any bw hb3 bw.size
  refine hK.out _ _ ⟨_, _, _, u1⟩ (fun _ => ?_)
  clear hK K hb3
  try simp only [Act.put, List.getElem_toArray, List.getElem_cons_succ, List.getElem_cons_zero, List.setIfInBounds_toArray, List.set_cons_zero, List.set_cons_succ]
  refine wpAnyH_ready (rs := [7]) (by kernel_rfl) (by simp) ?_
  refine AllReadyH.cons rfl (fun K hK => ?_) AllReadyH.nil
  have c0 := u1.c3
  have f0 := u1.free 3
  go_simp
  replace bw := below_set (e := w.heap.size) (o := 3) bw none (.string t) (Nat.le_refl _) bw.size
  replace u2 := u2.only ((Only.refl w.heap.size _).setCell 3 none (.string t)) (by omega)
  replace u1 := u1.set3 t
  refine hK.out _ _ ⟨_, _, _, u1⟩ (fun _ => ?_)
  clear hK K c0 f0
  try simp only [Act.put, List.getElem_toArray, List.getElem_cons_succ, List.getElem_cons_zero, List.setIfInBounds_toArray, List.set_cons_zero, List.set_cons_succ]
  refine wpAnyH_take (i := 8) (v := .pointer (some ⟨w.heap.size, 4, none⟩)) rfl (by kernel_rfl) (by kernel_rfl) (by kernel_rfl) (fun _ _ _ h => h) (Or.inl ⟨by rfl, fun W _ => by go_simp⟩) ⟨_, _, _, u1⟩ ?_
  try simp only [Act.put, List.getElem_toArray, List.getElem_cons_succ, List.getElem_cons_zero, List.setIfInBounds_toArray, List.set_cons_zero, List.set_cons_succ]
  refine wpAnyH_ready (rs := [9]) (by kernel_rfl) (by simp) ?_
  refine AllReadyH.cons rfl (fun K hK => ?_) AllReadyH.nil
  have c0 := u1.c4
  have f0 := u1.free 4
  go_simp
  replace bw := below_set (e := w.heap.size) (o := 4) bw none (.string x) (Nat.le_refl _) bw.size
  replace u2 := u2.only ((Only.refl w.heap.size _).setCell 4 none (.string x)) (by omega)
  replace u1 := u1.set4 x
  refine hK.out _ _ ⟨_, _, _, u1⟩ (fun _ => ?_)
  clear hK K c0 f0
  try simp only [Act.put, List.getElem_toArray, List.getElem_cons_succ, List.getElem_cons_zero, List.setIfInBounds_toArray, List.set_cons_zero, List.set_cons_succ]
  refine wpAnyH_take (i := 10) (v := .pointer (some ⟨w.heap.size, 5, none⟩)) rfl (by kernel_rfl) (by kernel_rfl) (by kernel_rfl) (fun _ _ _ h => h) (Or.inl ⟨by rfl, fun W _ => by go_simp⟩) ⟨_, _, _, u1⟩ ?_
  try simp only [Act.put, List.getElem_toArray, List.getElem_cons_succ, List.getElem_cons_zero, List.setIfInBounds_toArray, List.set_cons_zero, List.set_cons_succ]
  refine wpAnyH_ready (rs := [11]) (by kernel_rfl) (by simp) ?_
  refine AllReadyH.cons rfl (fun K hK => ?_) AllReadyH.nil
  have c0 := u1.c5
  have f0 := u1.free 5
  go_simp
  replace bw := below_set (e := w.heap.size) (o := 5) bw none (.slice none 0 0) (Nat.le_refl _) bw.size
  replace u2 := u2.only ((Only.refl w.heap.size _).setCell 5 none (.slice none 0 0)) (by omega)
  replace u1 := u1.set5 none 0 0
  refine hK.out _ _ ⟨_, _, _, u1⟩ (fun _ => ?_)
  clear hK K c0 f0
  try simp only [Act.put, List.getElem_toArray, List.getElem_cons_succ, List.getElem_cons_zero, List.setIfInBounds_toArray, List.set_cons_zero, List.set_cons_succ]
  refine wpAnyH_done (by kernel_rfl) ?_ _
  go_wp2_with (first
    | ((with_reducible refine wpList_load6 (.tmp 1) w.heap.size u1 ?_ ?_ ?_ ?_); rfl; rfl; rfl)
    | ((with_reducible refine wpList_store6 (k' := k) (b' := b) (n' := n) (t' := t) (x' := x) (p' := none) (len' := 0) (cap' := 0) (.tmp 2) (.tmp 12) (w.heap.size + 1) u2 ?_ ?_ ?_ ?_ ?_); rfl; rfl; rfl; rfl; intro w5 ho5 u5; have b5 := below_only bw ho5 (Nat.le_succ _) bw.size))
  exact bodyPost_ret (v := .agg #[.int .i64 k, .bool b, .int .i64 n, .string t, .string x, .slice none 0 0]) (results_cell_row (p := 2) (ty := 39) Tryz.results63 _ _ (w.heap.size + 1) 39 _ (0, 0) _ rfl u5 Tryz.underlying39 rfl (by exact info28)) rfl ⟨rfl, b5⟩
end Go.Proofs.YtanbgdhmfjgihaaGreatDoor

/- What lies ahead of a sought value; what lies below a cursor. -/
namespace Go.Proofs.YtanbgdhmfjgihaaGreatDoor
open Go.RowKit

/-- Whether a place is ahead of what is sought. -/
def SM.less (s : SM) (u : Val) (k v j : Nat) : Bool := decide (orderI 1 ((s.vs[s.num k v j]?).getD (.mk 0 false 0 ⟨#[]⟩ ⟨#[]⟩ [])) u < 0)
end Go.Proofs.YtanbgdhmfjgihaaGreatDoor
