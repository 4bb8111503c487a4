/- Marks in words, in memory: one more laid. -/
import Derived.Test.YtffbcccbhofbpaaDoorC1
namespace Go.Proofs.YtffbcccbhofbpaaDoor
open Go.RowKit

theorem row_set {w : World} {e r n cap j : Nat} {xs : List Value} (h : w.ownsRow 0 e 1 (.slice (some ⟨r, 0, none⟩) n cap) n xs) (u : Value) : (w.setCell ⟨r, j, none⟩ u).ownsRow 0 e 1 (.slice (some ⟨r, 0, none⟩) n cap) n (xs.set j u) := by
  obtain ⟨h0, h⟩ := h
  rcases h with ⟨e, _⟩ | ⟨g', cap', cur, e, h1, h2, h3, h4, h5, h6⟩
  · cases e
  · cases e
    refine ⟨by simpa using h0, .inr ⟨r, cap, cur.setIfInBounds j u, rfl, Nat.zero_le _, heap_set h2 j u, h3, h4, by simpa using h5, ?_⟩⟩
    rw [← h6, Array.toList_setIfInBounds, List.take_set]
theorem row_free {w : World} {e r n cap : Nat} {xs : List Value} (h : w.ownsRow 0 e 1 (.slice (some ⟨r, 0, none⟩) n cap) n xs) (j : Nat) : w.frozen? ⟨r, j, none⟩ = false := by
  obtain ⟨h0, h⟩ := h
  rcases h with ⟨e, _⟩ | ⟨g', cap', cur, e, h1, h2, _⟩
  · cases e
  · cases e; exact free_of h2 j
theorem or_k (y p : Nat) (hy : y < 2 ^ p) (hp : p < 64) : bits BinOp.or IntKind.u64 (y : Int) (IntKind.u64.wrap (2 ^ p)) = ((y + 2 ^ p : Nat) : Int) := by
  have h64 : (2 : Nat) ^ p < 18446744073709551616 := by
    have := Nat.pow_lt_pow_right (a := 2) (by decide) hp
    simpa using this
  have e1 : IntKind.u64.wrap ((2 : Int) ^ p) = ((2 ^ p : Nat) : Int) := by
    rw [← u64_id (2 ^ p) h64, Int.natCast_pow]; rfl
  rw [e1, u64_or_nat y (2 ^ p) (by omega) h64]
  congr 1
  rw [Nat.or_comm]
  have := Nat.two_pow_add_eq_or_of_lt hy 1
  simp at this
  omega
theorem words_plain (bs : List Bool) (h : bs.length % 64 ≠ 0) : Pop.words (bs ++ [false]) = Pop.words bs := by
  rw [Pop.words_more bs false h]
  simp only [Bool.toNat_false, Nat.mul_zero, Nat.add_zero]
  apply List.ext_getElem?
  intro j
  rw [List.getElem?_set]
  split
  · rename_i e
    subst e
    have hj : bs.length / 64 < Pop.nw bs := by unfold Pop.nw; omega
    rw [if_pos (by rw [Pop.words_length]; exact hj), Pop.words_get _ _ hj]
  · rfl
theorem nw_same (bs : List Bool) (b : Bool) (h : bs.length % 64 ≠ 0) : Pop.nw (bs ++ [b]) = Pop.nw bs := by unfold Pop.nw; simp; omega
theorem nw_more (bs : List Bool) (b : Bool) (h : bs.length % 64 = 0) : Pop.nw (bs ++ [b]) = Pop.nw bs + 1 := by unfold Pop.nw; simp; omega
set_option maxRecDepth 20000 in
set_option maxHeartbeats 1600000 in
theorem putPlain (w : World) (g T : Nat) (c v : Value) (bs : List Bool) (h1 : w.heap[g]? = some (.cells #[c, v] T)) (h : Mk w v bs) (hn : bs.length ≤ 17592186044416) (hm : bs.length % 64 ≠ 0) :
    Calls Tryd.prog 59 #[.pointer (some ⟨g, 1, none⟩), .int .i64 bs.length, .bool false] w fun e w' => e = .returned (.tuple #[]) ∧ ∃ v', w'.heap[g]? = some (.cells #[c, v'] T) ∧ Mk w' v' (bs ++ [false]) ∧ Ch (fun i => i = g ∨ v.ownBlock = some i) w w' ∧ ∀ i, v'.ownBlock = some i → v.ownBlock = some i ∨ w.heap.size ≤ i := by
  have hM : Mk w v (bs ++ [false]) := by unfold Mk; rw [words_plain bs hm, nw_same bs false hm]; exact h
  have hm2 : ((bs.length : Int) % 64 == 0) = false := by simp; omega
  have hl : bs.length ≤ 9223372036854775807 := by omega
  clear h hm
  go_enter Tryd.func59, Tryd.ntmps59
  go_wp2_with fail
  go_end0
  exact ⟨rfl, v, h1, hM, Ch.refl _ _, fun i q => .inl q⟩
set_option maxRecDepth 20000 in
set_option maxHeartbeats 1600000 in
theorem putMark (w : World) (g T : Nat) (c v : Value) (bs : List Bool) (h1 : w.heap[g]? = some (.cells #[c, v] T)) (h : Mk w v bs) (hT : T ≠ 128) (hn : bs.length ≤ 17592186044416) (hm : bs.length % 64 ≠ 0) :
    Calls Tryd.prog 59 #[.pointer (some ⟨g, 1, none⟩), .int .i64 bs.length, .bool true] w fun e w' => e = .returned (.tuple #[]) ∧ ∃ v', w'.heap[g]? = some (.cells #[c, v'] T) ∧ Mk w' v' (bs ++ [true]) ∧ Ch (fun i => i = g ∨ v.ownBlock = some i) w w' ∧ ∀ i, v'.ownBlock = some i → v.ownBlock = some i ∨ w.heap.size ≤ i := by
  have hj : bs.length / 64 < Pop.nw bs := by unfold Pop.nw; omega
  obtain ⟨r, cap, rfl, hcap, hc⟩ := h.get (bs.length / 64) hj
  have hf : w.frozen? ⟨r, bs.length / 64, none⟩ = false := row_free h _
  obtain ⟨_, o2⟩ := Pop.dig_own bs true
  have ho := or_k (Pop.dig bs (bs.length / 64)) (bs.length % 64) o2 (by omega)
  have hrg : r ≠ g := fun e => row_not h h1 hT (by rw [e]; rfl)
  have hM : Mk (w.setCell ⟨r, bs.length / 64, none⟩ (.int .u64 ((Pop.dig bs (bs.length / 64) + 2 ^ (bs.length % 64) : Nat) : Int))) (.slice (some ⟨r, 0, none⟩) (Pop.nw bs) cap) (bs ++ [true]) := by
    have h2 := row_set h (j := bs.length / 64) (.int .u64 ((Pop.dig bs (bs.length / 64) + 2 ^ (bs.length % 64) : Nat) : Int))
    unfold Mk
    rw [nw_same bs true hm, Pop.words_more bs true hm, List.map_set]
    simpa using h2
  have hm2 : ((bs.length : Int) % 64 == 0) = false := by simp; omega
  have c1 : w.cell? ⟨g, 1, none⟩ = some (.slice (some ⟨r, 0, none⟩) (Pop.nw bs) cap) := cell_of h1 1 rfl
  have hl : bs.length ≤ 17592186044416 := hn
  have hnw : Pop.nw bs ≤ 274877906945 := by unfold Pop.nw; omega
  have hy2 : Pop.dig bs (bs.length / 64) < 18446744073709551616 := Pop.dig_lt bs _
  have HO := Lib.hid ho
  clear h hm o2 ho hn
  generalize hq : bs.length = q at *
  generalize hN : Pop.nw bs = N at *
  generalize hY : Pop.dig bs (q / 64) = y at *
  have HQ := Lib.hid hq
  have HN := Lib.hid hN
  have HY := Lib.hid hY
  clear hq hN hY
  go_enter Tryd.func59, Tryd.ntmps59
  go_wp2_with fail
  go_region
  go_end0
  rw [HO.out]
  refine ⟨rfl, _, ?_, hM, ?_, fun i q => .inl q⟩
  · exact (Below.heap_setCell _ _ _ _ (fun e => hrg e.symm)).trans h1
  · exact ((Ch.refl _ _).setCell (a := ⟨r, q / 64, none⟩) (.inl (.inr rfl)) _).drewN 1
theorem info128b : (Tryd.prog.info? 128).map (fun i => (i.zero, i.size, i.bytes)) = some (some (.int .u64 0), 1, 8) := by kernel_rfl
set_option maxRecDepth 20000 in
set_option maxHeartbeats 1600000 in
theorem putFirst (w : World) (g T : Nat) (c v : Value) (bs : List Bool) (h1 : w.heap[g]? = some (.cells #[c, v] T)) (h : Mk w v bs) (hT : T ≠ 128) (hn : bs.length ≤ 17592186044416) (hm : bs.length % 64 = 0) :
    Calls Tryd.prog 59 #[.pointer (some ⟨g, 1, none⟩), .int .i64 bs.length, .bool false] w fun e w' => e = .returned (.tuple #[]) ∧ ∃ v', w'.heap[g]? = some (.cells #[c, v'] T) ∧ Mk w' v' (bs ++ [false]) ∧ Ch (fun i => i = g ∨ v.ownBlock = some i) w w' ∧ ∀ i, v'.ownBlock = some i → v.ownBlock = some i ∨ w.heap.size ≤ i := by
  obtain ⟨i0, hi, hz0, hz1, hz2⟩ := info_parts info128b
  obtain ⟨p, cap, rfl⟩ := row_slice h
  have c1 : w.cell? ⟨g, 1, none⟩ = some (.slice p (Pop.nw bs) cap) := cell_of h1 1 rfl
  have f1 : w.frozen? ⟨g, 1, none⟩ = false := free_of h1 1
  have hm2 : ((bs.length : Int) % 64 == 0) = true := by simp; omega
  have hl : bs.length ≤ 17592186044416 := hn
  have hnw : Pop.nw bs ≤ 274877906945 := by unfold Pop.nw; omega
  have hqN : bs.length / 64 = Pop.nw bs := by unfold Pop.nw; omega
  have hW := Pop.words_new bs false hm
  have hNM := nw_more bs false hm
  have hgl := lt_of_heap h1
  unfold Mk at h
  have HW := Lib.hid hW
  have HNM := Lib.hid hNM
  have HM := Lib.hid hm
  have HQN := Lib.hid hqN
  clear hm hn hW hNM hqN
  generalize hq : bs.length = q at *
  generalize hN : Pop.nw bs = N at *
  have HQ := Lib.hid hq
  have HN := Lib.hid hN
  clear hq hN
  go_enter Tryd.func59, Tryd.ntmps59
  go_wp2_with (at_builtin; refine Hid.out ?_)
  refine Lib.hid ?_
  refine wpList_append_own_at _ rfl _ _ 105 rfl 0 128 i0 (.int .u64 0) 1 8 Tryd.underlying105 hi hz0 hz1 hz2 rfl (by decide) _ _ _ rfl (h.alloc _) ⟨w.heap.size, 0, none⟩ 1 1 [.int .u64 0] rfl rfl (cell_one_new _ _ _) ?_ ?_ ?_ ?_ ?_
  all_goals (try (first | (intro u hu; simp at hu; subst hu; rfl) | (unfold maxLen; omega) | omega | (simp; done)))
  intro v' w3 hr hg3 _ hat
  obtain ⟨r, cap', rfl, hcap', hce⟩ := row_cell hr N (by omega)
  have k3 := (hg3.block g (by simp; omega) (fun q => row_not h h1 hT q.symm)).trans (heap_old _ h1)
  have q1 : w3.cell? ⟨g, 1, none⟩ = some (.slice p N cap) := cell_of k3 1 rfl
  have q2 : w3.frozen? ⟨g, 1, none⟩ = false := free_of k3 1
  have ch3 : Ch (fun i => i = g ∨ (Value.slice p N cap).ownBlock = some i) w w3 := ((Ch.refl _ w).alloc _).trans (Ch.of_grown hg3) (fun i _ q => .inr q)
  have hvg : r ≠ g := fun e => row_not hr k3 hT (by rw [e]; rfl)
  have foot : ∀ i, (Value.slice (some ⟨r, 0, none⟩) (N + 1) cap').ownBlock = some i → (Value.slice p N cap).ownBlock = some i ∨ w.heap.size ≤ i := fun i q => by
    rcases hat with e | e
    · exact .inl (e.symm.trans q)
    · rw [q] at e
      have : i = w.heap.size + 1 := by simpa using e
      exact .inr (by omega)
  have k4 := heap_set k3 1 (.slice (some ⟨r, 0, none⟩) (N + 1) cap')
  have hr4 := row_keep (w' := w3.setCell ⟨g, 1, none⟩ (.slice (some ⟨r, 0, none⟩) (N + 1) cap')) hr fun i q => Below.heap_setCell _ _ _ _ (fun e => hvg (by cases q; exact e))
  have ch4 := ch3.setCell (a := ⟨g, 1, none⟩) (.inl (.inl rfl)) (.slice (some ⟨r, 0, none⟩) (N + 1) cap')
  skip
  clear hgl hce hat hg3 c1 f1 ch3
  go_wp2_with fail
  go_end0
  refine ⟨rfl, _, k4, ?_, ch4, foot⟩
  unfold Mk
  rw [HW.out, HNM.out, List.map_append]
  exact hr4
set_option maxRecDepth 20000 in
set_option maxHeartbeats 1600000 in
theorem putFirstM (w : World) (g T : Nat) (c v : Value) (bs : List Bool) (h1 : w.heap[g]? = some (.cells #[c, v] T)) (h : Mk w v bs) (hT : T ≠ 128) (hn : bs.length ≤ 17592186044416) (hm : bs.length % 64 = 0) :
    Calls Tryd.prog 59 #[.pointer (some ⟨g, 1, none⟩), .int .i64 bs.length, .bool true] w fun e w' => e = .returned (.tuple #[]) ∧ ∃ v', w'.heap[g]? = some (.cells #[c, v'] T) ∧ Mk w' v' (bs ++ [true]) ∧ Ch (fun i => i = g ∨ v.ownBlock = some i) w w' ∧ ∀ i, v'.ownBlock = some i → v.ownBlock = some i ∨ w.heap.size ≤ i := by
  obtain ⟨i0, hi, hz0, hz1, hz2⟩ := info_parts info128b
  obtain ⟨p, cap, rfl⟩ := row_slice h
  have c1 : w.cell? ⟨g, 1, none⟩ = some (.slice p (Pop.nw bs) cap) := cell_of h1 1 rfl
  have f1 : w.frozen? ⟨g, 1, none⟩ = false := free_of h1 1
  have hm2 : ((bs.length : Int) % 64 == 0) = true := by simp; omega
  have hl : bs.length ≤ 17592186044416 := hn
  have hnw : Pop.nw bs ≤ 274877906945 := by unfold Pop.nw; omega
  have hqN : bs.length / 64 = Pop.nw bs := by unfold Pop.nw; omega
  have hW := Pop.words_new bs true hm
  have hNM := nw_more bs true hm
  have hgl := lt_of_heap h1
  unfold Mk at h
  have HW := Lib.hid hW
  have HNM := Lib.hid hNM
  have HM := Lib.hid hm
  have HQN := Lib.hid hqN
  clear hm hn hW hNM hqN
  generalize hq : bs.length = q at *
  generalize hN : Pop.nw bs = N at *
  have HQ := Lib.hid hq
  have HN := Lib.hid hN
  clear hq hN
  go_enter Tryd.func59, Tryd.ntmps59
  go_wp2_with (at_builtin; refine Hid.out ?_)
  refine Lib.hid ?_
  refine wpList_append_own_at _ rfl _ _ 105 rfl 0 128 i0 (.int .u64 0) 1 8 Tryd.underlying105 hi hz0 hz1 hz2 rfl (by decide) _ _ _ rfl (h.alloc _) ⟨w.heap.size, 0, none⟩ 1 1 [.int .u64 0] rfl rfl (cell_one_new _ _ _) ?_ ?_ ?_ ?_ ?_
  all_goals (try (first | (intro u hu; simp at hu; subst hu; rfl) | (unfold maxLen; omega) | omega | (simp; done)))
  intro v' w3 hr hg3 _ hat
  obtain ⟨r, cap', rfl, hcap', hce⟩ := row_cell hr N (by omega)
  have k3 := (hg3.block g (by simp; omega) (fun q => row_not h h1 hT q.symm)).trans (heap_old _ h1)
  have q1 : w3.cell? ⟨g, 1, none⟩ = some (.slice p N cap) := cell_of k3 1 rfl
  have q2 : w3.frozen? ⟨g, 1, none⟩ = false := free_of k3 1
  have ch3 : Ch (fun i => i = g ∨ (Value.slice p N cap).ownBlock = some i) w w3 := ((Ch.refl _ w).alloc _).trans (Ch.of_grown hg3) (fun i _ q => .inr q)
  have hvg : r ≠ g := fun e => row_not hr k3 hT (by rw [e]; rfl)
  have foot : ∀ i, (Value.slice (some ⟨r, 0, none⟩) (N + 1) cap').ownBlock = some i → (Value.slice p N cap).ownBlock = some i ∨ w.heap.size ≤ i := fun i q => by
    rcases hat with e | e
    · exact .inl (e.symm.trans q)
    · rw [q] at e
      have : i = w.heap.size + 1 := by simpa using e
      exact .inr (by omega)
  have k4 := heap_set k3 1 (.slice (some ⟨r, 0, none⟩) (N + 1) cap')
  have hr4 := row_keep (w' := w3.setCell ⟨g, 1, none⟩ (.slice (some ⟨r, 0, none⟩) (N + 1) cap')) hr fun i q => Below.heap_setCell _ _ _ _ (fun e => hvg (by cases q; exact e))
  have ch4 := ch3.setCell (a := ⟨g, 1, none⟩) (.inl (.inl rfl)) (.slice (some ⟨r, 0, none⟩) (N + 1) cap')
  skip
  clear hgl hce hat hg3 c1 f1 ch3
  go_wp2_with fail
  have e64 : q / 64 = N := HQN.out
  have x1 := cell_of k4 1 (v := .slice (some ⟨r, 0, none⟩) (N + 1) cap') rfl
  have x2 : (w3.setCell ⟨g, 1, none⟩ (.slice (some ⟨r, 0, none⟩) (N + 1) cap')).cell? ⟨r, q / 64, none⟩ = some (.int .u64 0) := by
    obtain ⟨r', c', e, _, hh⟩ := row_cell hr4 N (by omega)
    cases e
    rw [e64, hh]; simp [Pop.words_length, HN.out]
  have x3 := row_free hr4 (q / 64)
  have hr5 := row_set hr4 (j := q / 64) (.int .u64 1)
  have hql : q / 64 < N + 1 := by omega
  have hM : Mk ((w3.setCell ⟨g, 1, none⟩ (.slice (some ⟨r, 0, none⟩) (N + 1) cap')).setCell ⟨r, q / 64, none⟩ (.int .u64 1)) (.slice (some ⟨r, 0, none⟩) (N + 1) cap') (bs ++ [true]) := by
    unfold Mk
    rw [HW.out, HNM.out, List.map_append]
    have e : (List.map (fun (n : Nat) => Value.int IntKind.u64 ↑n) (Pop.words bs) ++ [Value.int IntKind.u64 0]).set (q / 64) (.int .u64 1) = List.map (fun (n : Nat) => Value.int IntKind.u64 ↑n) (Pop.words bs) ++ [Value.int IntKind.u64 1] := by
      rw [e64, List.set_append_right _ _ (by simp [Pop.words_length, HN.out])]
      simp [Pop.words_length, HN.out]
    rw [e] at hr5
    exact hr5
  have ho : bits BinOp.or IntKind.u64 0 (IntKind.u64.wrap (2 ^ (q % 64))) = 1 := by
    have h := or_k 0 (q % 64) (Nat.pow_pos (by decide)) (by omega)
    rw [HM.out] at h ⊢
    exact h
  have k5 : ((w3.setCell ⟨g, 1, none⟩ (.slice (some ⟨r, 0, none⟩) (N + 1) cap')).setCell ⟨r, q / 64, none⟩ (.int .u64 1)).heap[g]? = some (.cells #[c, .slice (some ⟨r, 0, none⟩) (N + 1) cap'] T) := (Below.heap_setCell _ _ _ _ (fun e => hvg e.symm)).trans k4
  have ch5 := ch4.setCell (a := ⟨r, q / 64, none⟩) ((foot r rfl).imp .inr id) (.int .u64 1)
  have HO := Lib.hid ho
  clear e64 ho hr5 hr4 k4 ch4 hr k3 q1 q2 HW HNM HM
  generalize w3.setCell ⟨g, 1, none⟩ (.slice (some ⟨r, 0, none⟩) (N + 1) cap') = w4 at *
  go_region
  go_end0
  rw [HO.out]
  exact ⟨rfl, _, k5, hM, ch5.drewN 1, foot⟩
/-- One mark more. -/
theorem putAt (w : World) (g T : Nat) (c v : Value) (bs : List Bool) (b : Bool) (h1 : w.heap[g]? = some (.cells #[c, v] T)) (h : Mk w v bs) (hT : T ≠ 128) (hn : bs.length ≤ 17592186044416) :
    Calls Tryd.prog 59 #[.pointer (some ⟨g, 1, none⟩), .int .i64 bs.length, .bool b] w fun e w' => e = .returned (.tuple #[]) ∧ ∃ v', w'.heap[g]? = some (.cells #[c, v'] T) ∧ Mk w' v' (bs ++ [b]) ∧ Ch (fun i => i = g ∨ v.ownBlock = some i) w w' ∧ ∀ i, v'.ownBlock = some i → v.ownBlock = some i ∨ w.heap.size ≤ i := by
  by_cases hm : bs.length % 64 = 0
  · cases b
    · exact putFirst w g T c v bs h1 h hT hn hm
    · exact putFirstM w g T c v bs h1 h hT hn hm
  · cases b
    · exact putPlain w g T c v bs h1 h hn hm
    · exact putMark w g T c v bs h1 h hT hn hm
end Go.Proofs.YtffbcccbhofbpaaDoor
