/- Texts of one kind, one behind the other: each says ahead of itself what it shows. -/
import Derived.Test.YtffbcccbhofbpaaGreatDoorHah
import Derived.Deep.RegionWith
import Derived.Deep.RegionLaw
import Derived.Deep.AppendLies
import Derived.Test.YtffbcccbhofbpaaGreatDoorHaf
import Derived.Deep.RegionHeld3
import Derived.Test.YtffbcccbhofbpaaGreatDoorHag
/- Marks in words, in memory: one more laid. -/
namespace Go.Proofs.YtffbcccbhofbpaaGreatDoor
open Go.RowKit

theorem row_set {w : World} {e r n cap j : Nat} {xs : List Value} (h : w.ownsRow 0 e 1 (.slice (some ⟨r, 0, none⟩) n cap) n xs) (u : Value) : (w.setCell ⟨r, j, none⟩ u).ownsRow 0 e 1 (.slice (some ⟨r, 0, none⟩) n cap) n (xs.set j u) := by
  obtain ⟨h0, h⟩ := h
  rcases h with ⟨e, _⟩ | ⟨g', cap', cur, e, h1, h2, h3, h4, h5, h6⟩
  · cases e
  · cases e
    refine ⟨by simpa using h0, .inr ⟨r, cap, cur.setIfInBounds j u, rfl, Nat.zero_le _, heap_set h2 j u, h3, h4, by simpa using h5, ?_⟩⟩
    rw [← h6, Array.toList_setIfInBounds, List.take_set]
theorem row_free {w : World} {e r n cap : Nat} {xs : List Value} (h : w.ownsRow 0 e 1 (.slice (some ⟨r, 0, none⟩) n cap) n xs) (j : Nat) : w.frozen? ⟨r, j, none⟩ = false := by
  obtain ⟨h0, h⟩ := h
  rcases h with ⟨e, _⟩ | ⟨g', cap', cur, e, h1, h2, _⟩
  · cases e
  · cases e; exact free_of h2 j
theorem or_k (y p : Nat) (hy : y < 2 ^ p) (hp : p < 64) : bits BinOp.or IntKind.u64 (y : Int) (IntKind.u64.wrap (2 ^ p)) = ((y + 2 ^ p : Nat) : Int) := by
  have h64 : (2 : Nat) ^ p < 18446744073709551616 := by
    have := Nat.pow_lt_pow_right (a := 2) (by decide) hp
    simpa using this
  have e1 : IntKind.u64.wrap ((2 : Int) ^ p) = ((2 ^ p : Nat) : Int) := by
    rw [← u64_id (2 ^ p) h64, Int.natCast_pow]; rfl
  rw [e1, u64_or_nat y (2 ^ p) (by omega) h64]
  congr 1
  rw [Nat.or_comm]
  have := Nat.two_pow_add_eq_or_of_lt hy 1
  simp at this
  omega
theorem words_plain (bs : List Bool) (h : bs.length % 64 ≠ 0) : Pop.words (bs ++ [false]) = Pop.words bs := by
  rw [Pop.words_more bs false h]
  simp only [Bool.toNat_false, Nat.mul_zero, Nat.add_zero]
  apply List.ext_getElem?
  intro j
  rw [List.getElem?_set]
  split
  · rename_i e
    subst e
    have hj : bs.length / 64 < Pop.nw bs := by unfold Pop.nw; omega
    rw [if_pos (by rw [Pop.words_length]; exact hj), Pop.words_get _ _ hj]
  · rfl
theorem nw_same (bs : List Bool) (b : Bool) (h : bs.length % 64 ≠ 0) : Pop.nw (bs ++ [b]) = Pop.nw bs := by unfold Pop.nw; simp; omega
theorem nw_more (bs : List Bool) (b : Bool) (h : bs.length % 64 = 0) : Pop.nw (bs ++ [b]) = Pop.nw bs + 1 := by unfold Pop.nw; simp; omega
set_option maxRecDepth 20000 in
set_option maxHeartbeats 1600000 in
theorem putPlain (w : World) (g T : Nat) (c v : Value) (bs : List Bool) (h1 : w.heap[g]? = some (.cells #[c, v] T)) (h : Mk w v bs) (hn : bs.length ≤ 17592186044416) (hm : bs.length % 64 ≠ 0) :
    Calls Tryz.prog 32 #[.pointer (some ⟨g, 1, none⟩), .int .i64 bs.length, .bool false] w fun e w' => e = .returned (.tuple #[]) ∧ ∃ v', w'.heap[g]? = some (.cells #[c, v'] T) ∧ Mk w' v' (bs ++ [false]) ∧ Ch (fun i => i = g ∨ v.ownBlock = some i) w w' ∧ ∀ i, v'.ownBlock = some i → v.ownBlock = some i ∨ w.heap.size ≤ i := by
  have hM : Mk w v (bs ++ [false]) := by unfold Mk; rw [words_plain bs hm, nw_same bs false hm]; exact h
  have hm2 : ((bs.length : Int) % 64 == 0) = false := by simp; omega
  have hl : bs.length ≤ 9223372036854775807 := by omega
  clear h hm
  go_enter Tryz.func32, Tryz.ntmps32
  go_wp2_with fail
  go_end0
  exact ⟨rfl, v, h1, hM, Ch.refl _ _, fun i q => .inl q⟩
set_option maxRecDepth 20000 in
set_option maxHeartbeats 1600000 in
theorem putMark (w : World) (g T : Nat) (c v : Value) (bs : List Bool) (h1 : w.heap[g]? = some (.cells #[c, v] T)) (h : Mk w v bs) (hT : T ≠ 83) (hn : bs.length ≤ 17592186044416) (hm : bs.length % 64 ≠ 0) :
    Calls Tryz.prog 32 #[.pointer (some ⟨g, 1, none⟩), .int .i64 bs.length, .bool true] w fun e w' => e = .returned (.tuple #[]) ∧ ∃ v', w'.heap[g]? = some (.cells #[c, v'] T) ∧ Mk w' v' (bs ++ [true]) ∧ Ch (fun i => i = g ∨ v.ownBlock = some i) w w' ∧ ∀ i, v'.ownBlock = some i → v.ownBlock = some i ∨ w.heap.size ≤ i := by
  have hj : bs.length / 64 < Pop.nw bs := by unfold Pop.nw; omega
  obtain ⟨r, cap, rfl, hcap, hc⟩ := h.get (bs.length / 64) hj
  have hf : w.frozen? ⟨r, bs.length / 64, none⟩ = false := row_free h _
  obtain ⟨_, o2⟩ := Pop.dig_own bs true
  have ho := or_k (Pop.dig bs (bs.length / 64)) (bs.length % 64) o2 (by omega)
  have hrg : r ≠ g := fun e => row_not h h1 hT (by rw [e]; rfl)
  have hM : Mk (w.setCell ⟨r, bs.length / 64, none⟩ (.int .u64 ((Pop.dig bs (bs.length / 64) + 2 ^ (bs.length % 64) : Nat) : Int))) (.slice (some ⟨r, 0, none⟩) (Pop.nw bs) cap) (bs ++ [true]) := by
    have h2 := row_set h (j := bs.length / 64) (.int .u64 ((Pop.dig bs (bs.length / 64) + 2 ^ (bs.length % 64) : Nat) : Int))
    unfold Mk
    rw [nw_same bs true hm, Pop.words_more bs true hm, List.map_set]
    simpa using h2
  have hm2 : ((bs.length : Int) % 64 == 0) = false := by simp; omega
  have c1 : w.cell? ⟨g, 1, none⟩ = some (.slice (some ⟨r, 0, none⟩) (Pop.nw bs) cap) := cell_of h1 1 rfl
  have hl : bs.length ≤ 17592186044416 := hn
  have hnw : Pop.nw bs ≤ 274877906945 := by unfold Pop.nw; omega
  have hy2 : Pop.dig bs (bs.length / 64) < 18446744073709551616 := Pop.dig_lt bs _
  have HO := Lib.hid ho
  clear h hm o2 ho hn
  generalize hq : bs.length = q at *
  generalize hN : Pop.nw bs = N at *
  generalize hY : Pop.dig bs (q / 64) = y at *
  have HQ := Lib.hid hq
  have HN := Lib.hid hN
  have HY := Lib.hid hY
  clear hq hN hY
  go_enter Tryz.func32, Tryz.ntmps32
  go_wp2_with fail
  go_region
  go_end0
  rw [HO.out]
  refine ⟨rfl, _, ?_, hM, ?_, fun i q => .inl q⟩
  · exact (Below.heap_setCell _ _ _ _ (fun e => hrg e.symm)).trans h1
  · exact ((Ch.refl _ _).setCell (a := ⟨r, q / 64, none⟩) (.inl (.inr rfl)) _).drewN 1
theorem info128b : (Tryz.prog.info? 83).map (fun i => (i.zero, i.size, i.bytes)) = some (some (.int .u64 0), 1, 8) := by kernel_rfl
set_option maxRecDepth 20000 in
set_option maxHeartbeats 1600000 in
theorem putFirst (w : World) (g T : Nat) (c v : Value) (bs : List Bool) (h1 : w.heap[g]? = some (.cells #[c, v] T)) (h : Mk w v bs) (hT : T ≠ 83) (hn : bs.length ≤ 17592186044416) (hm : bs.length % 64 = 0) :
    Calls Tryz.prog 32 #[.pointer (some ⟨g, 1, none⟩), .int .i64 bs.length, .bool false] w fun e w' => e = .returned (.tuple #[]) ∧ ∃ v', w'.heap[g]? = some (.cells #[c, v'] T) ∧ Mk w' v' (bs ++ [false]) ∧ Ch (fun i => i = g ∨ v.ownBlock = some i) w w' ∧ ∀ i, v'.ownBlock = some i → v.ownBlock = some i ∨ w.heap.size ≤ i := by
  obtain ⟨i0, hi, hz0, hz1, hz2⟩ := info_parts info128b
  obtain ⟨p, cap, rfl⟩ := row_slice h
  have c1 : w.cell? ⟨g, 1, none⟩ = some (.slice p (Pop.nw bs) cap) := cell_of h1 1 rfl
  have f1 : w.frozen? ⟨g, 1, none⟩ = false := free_of h1 1
  have hm2 : ((bs.length : Int) % 64 == 0) = true := by simp; omega
  have hl : bs.length ≤ 17592186044416 := hn
  have hnw : Pop.nw bs ≤ 274877906945 := by unfold Pop.nw; omega
  have hqN : bs.length / 64 = Pop.nw bs := by unfold Pop.nw; omega
  have hW := Pop.words_new bs false hm
  have hNM := nw_more bs false hm
  have hgl := lt_of_heap h1
  unfold Mk at h
  have HW := Lib.hid hW
  have HNM := Lib.hid hNM
  have HM := Lib.hid hm
  have HQN := Lib.hid hqN
  clear hm hn hW hNM hqN
  generalize hq : bs.length = q at *
  generalize hN : Pop.nw bs = N at *
  have HQ := Lib.hid hq
  have HN := Lib.hid hN
  clear hq hN
  go_enter Tryz.func32, Tryz.ntmps32
  go_wp2_with (at_builtin; refine Hid.out ?_)
  refine Lib.hid ?_
  refine wpList_append_own_at _ rfl _ _ 68 rfl 0 83 i0 (.int .u64 0) 1 8 Tryz.underlying68 hi hz0 hz1 hz2 rfl (by decide) _ _ _ rfl (h.alloc _) ⟨w.heap.size, 0, none⟩ 1 1 [.int .u64 0] rfl rfl (cell_one_new _ _ _) ?_ ?_ ?_ ?_ ?_
  all_goals (try (first | (intro u hu; simp at hu; subst hu; rfl) | (unfold maxLen; omega) | omega | (simp; done)))
  intro v' w3 hr hg3 _ hat
  obtain ⟨r, cap', rfl, hcap', hce⟩ := row_cell hr N (by omega)
  have k3 := (hg3.block g (by simp; omega) (fun q => row_not h h1 hT q.symm)).trans (heap_old _ h1)
  have q1 : w3.cell? ⟨g, 1, none⟩ = some (.slice p N cap) := cell_of k3 1 rfl
  have q2 : w3.frozen? ⟨g, 1, none⟩ = false := free_of k3 1
  have ch3 : Ch (fun i => i = g ∨ (Value.slice p N cap).ownBlock = some i) w w3 := ((Ch.refl _ w).alloc _).trans (Ch.of_grown hg3) (fun i _ q => .inr q)
  have hvg : r ≠ g := fun e => row_not hr k3 hT (by rw [e]; rfl)
  have foot : ∀ i, (Value.slice (some ⟨r, 0, none⟩) (N + 1) cap').ownBlock = some i → (Value.slice p N cap).ownBlock = some i ∨ w.heap.size ≤ i := fun i q => by
    rcases hat with e | e
    · exact .inl (e.symm.trans q)
    · rw [q] at e
      have : i = w.heap.size + 1 := by simpa using e
      exact .inr (by omega)
  have k4 := heap_set k3 1 (.slice (some ⟨r, 0, none⟩) (N + 1) cap')
  have hr4 := row_keep (w' := w3.setCell ⟨g, 1, none⟩ (.slice (some ⟨r, 0, none⟩) (N + 1) cap')) hr fun i q => Below.heap_setCell _ _ _ _ (fun e => hvg (by cases q; exact e))
  have ch4 := ch3.setCell (a := ⟨g, 1, none⟩) (.inl (.inl rfl)) (.slice (some ⟨r, 0, none⟩) (N + 1) cap')
  skip
  clear hgl hce hat hg3 c1 f1 ch3
  go_wp2_with fail
  go_end0
  refine ⟨rfl, _, k4, ?_, ch4, foot⟩
  unfold Mk
  rw [HW.out, HNM.out, List.map_append]
  exact hr4
set_option maxRecDepth 20000 in
set_option maxHeartbeats 1600000 in
theorem putFirstM (w : World) (g T : Nat) (c v : Value) (bs : List Bool) (h1 : w.heap[g]? = some (.cells #[c, v] T)) (h : Mk w v bs) (hT : T ≠ 83) (hn : bs.length ≤ 17592186044416) (hm : bs.length % 64 = 0) :
    Calls Tryz.prog 32 #[.pointer (some ⟨g, 1, none⟩), .int .i64 bs.length, .bool true] w fun e w' => e = .returned (.tuple #[]) ∧ ∃ v', w'.heap[g]? = some (.cells #[c, v'] T) ∧ Mk w' v' (bs ++ [true]) ∧ Ch (fun i => i = g ∨ v.ownBlock = some i) w w' ∧ ∀ i, v'.ownBlock = some i → v.ownBlock = some i ∨ w.heap.size ≤ i := by
  obtain ⟨i0, hi, hz0, hz1, hz2⟩ := info_parts info128b
  obtain ⟨p, cap, rfl⟩ := row_slice h
  have c1 : w.cell? ⟨g, 1, none⟩ = some (.slice p (Pop.nw bs) cap) := cell_of h1 1 rfl
  have f1 : w.frozen? ⟨g, 1, none⟩ = false := free_of h1 1
  have hm2 : ((bs.length : Int) % 64 == 0) = true := by simp; omega
  have hl : bs.length ≤ 17592186044416 := hn
  have hnw : Pop.nw bs ≤ 274877906945 := by unfold Pop.nw; omega
  have hqN : bs.length / 64 = Pop.nw bs := by unfold Pop.nw; omega
  have hW := Pop.words_new bs true hm
  have hNM := nw_more bs true hm
  have hgl := lt_of_heap h1
  unfold Mk at h
  have HW := Lib.hid hW
  have HNM := Lib.hid hNM
  have HM := Lib.hid hm
  have HQN := Lib.hid hqN
  clear hm hn hW hNM hqN
  generalize hq : bs.length = q at *
  generalize hN : Pop.nw bs = N at *
  have HQ := Lib.hid hq
  have HN := Lib.hid hN
  clear hq hN
  go_enter Tryz.func32, Tryz.ntmps32
  go_wp2_with (at_builtin; refine Hid.out ?_)
  refine Lib.hid ?_
  refine wpList_append_own_at _ rfl _ _ 68 rfl 0 83 i0 (.int .u64 0) 1 8 Tryz.underlying68 hi hz0 hz1 hz2 rfl (by decide) _ _ _ rfl (h.alloc _) ⟨w.heap.size, 0, none⟩ 1 1 [.int .u64 0] rfl rfl (cell_one_new _ _ _) ?_ ?_ ?_ ?_ ?_
  all_goals (try (first | (intro u hu; simp at hu; subst hu; rfl) | (unfold maxLen; omega) | omega | (simp; done)))
  intro v' w3 hr hg3 _ hat
  obtain ⟨r, cap', rfl, hcap', hce⟩ := row_cell hr N (by omega)
  have k3 := (hg3.block g (by simp; omega) (fun q => row_not h h1 hT q.symm)).trans (heap_old _ h1)
  have q1 : w3.cell? ⟨g, 1, none⟩ = some (.slice p N cap) := cell_of k3 1 rfl
  have q2 : w3.frozen? ⟨g, 1, none⟩ = false := free_of k3 1
  have ch3 : Ch (fun i => i = g ∨ (Value.slice p N cap).ownBlock = some i) w w3 := ((Ch.refl _ w).alloc _).trans (Ch.of_grown hg3) (fun i _ q => .inr q)
  have hvg : r ≠ g := fun e => row_not hr k3 hT (by rw [e]; rfl)
  have foot : ∀ i, (Value.slice (some ⟨r, 0, none⟩) (N + 1) cap').ownBlock = some i → (Value.slice p N cap).ownBlock = some i ∨ w.heap.size ≤ i := fun i q => by
    rcases hat with e | e
    · exact .inl (e.symm.trans q)
    · rw [q] at e
      have : i = w.heap.size + 1 := by simpa using e
      exact .inr (by omega)
  have k4 := heap_set k3 1 (.slice (some ⟨r, 0, none⟩) (N + 1) cap')
  have hr4 := row_keep (w' := w3.setCell ⟨g, 1, none⟩ (.slice (some ⟨r, 0, none⟩) (N + 1) cap')) hr fun i q => Below.heap_setCell _ _ _ _ (fun e => hvg (by cases q; exact e))
  have ch4 := ch3.setCell (a := ⟨g, 1, none⟩) (.inl (.inl rfl)) (.slice (some ⟨r, 0, none⟩) (N + 1) cap')
  skip
  clear hgl hce hat hg3 c1 f1 ch3
  go_wp2_with fail
  have e64 : q / 64 = N := HQN.out
  have x1 := cell_of k4 1 (v := .slice (some ⟨r, 0, none⟩) (N + 1) cap') rfl
  have x2 : (w3.setCell ⟨g, 1, none⟩ (.slice (some ⟨r, 0, none⟩) (N + 1) cap')).cell? ⟨r, q / 64, none⟩ = some (.int .u64 0) := by
    obtain ⟨r', c', e, _, hh⟩ := row_cell hr4 N (by omega)
    cases e
    rw [e64, hh]; simp [Pop.words_length, HN.out]
  have x3 := row_free hr4 (q / 64)
  have hr5 := row_set hr4 (j := q / 64) (.int .u64 1)
  have hql : q / 64 < N + 1 := by omega
  have hM : Mk ((w3.setCell ⟨g, 1, none⟩ (.slice (some ⟨r, 0, none⟩) (N + 1) cap')).setCell ⟨r, q / 64, none⟩ (.int .u64 1)) (.slice (some ⟨r, 0, none⟩) (N + 1) cap') (bs ++ [true]) := by
    unfold Mk
    rw [HW.out, HNM.out, List.map_append]
    have e : (List.map (fun (n : Nat) => Value.int IntKind.u64 ↑n) (Pop.words bs) ++ [Value.int IntKind.u64 0]).set (q / 64) (.int .u64 1) = List.map (fun (n : Nat) => Value.int IntKind.u64 ↑n) (Pop.words bs) ++ [Value.int IntKind.u64 1] := by
      rw [e64, List.set_append_right _ _ (by simp [Pop.words_length, HN.out])]
      simp [Pop.words_length, HN.out]
    rw [e] at hr5
    exact hr5
  have ho : bits BinOp.or IntKind.u64 0 (IntKind.u64.wrap (2 ^ (q % 64))) = 1 := by
    have h := or_k 0 (q % 64) (Nat.pow_pos (by decide)) (by omega)
    rw [HM.out] at h ⊢
    exact h
  have k5 : ((w3.setCell ⟨g, 1, none⟩ (.slice (some ⟨r, 0, none⟩) (N + 1) cap')).setCell ⟨r, q / 64, none⟩ (.int .u64 1)).heap[g]? = some (.cells #[c, .slice (some ⟨r, 0, none⟩) (N + 1) cap'] T) := (Below.heap_setCell _ _ _ _ (fun e => hvg e.symm)).trans k4
  have ch5 := ch4.setCell (a := ⟨r, q / 64, none⟩) ((foot r rfl).imp .inr id) (.int .u64 1)
  have HO := Lib.hid ho
  clear e64 ho hr5 hr4 k4 ch4 hr k3 q1 q2 HW HNM HM
  generalize w3.setCell ⟨g, 1, none⟩ (.slice (some ⟨r, 0, none⟩) (N + 1) cap') = w4 at *
  go_region
  go_end0
  rw [HO.out]
  exact ⟨rfl, _, k5, hM, ch5.drewN 1, foot⟩
/-- One mark more. -/
theorem putAt (w : World) (g T : Nat) (c v : Value) (bs : List Bool) (b : Bool) (h1 : w.heap[g]? = some (.cells #[c, v] T)) (h : Mk w v bs) (hT : T ≠ 83) (hn : bs.length ≤ 17592186044416) :
    Calls Tryz.prog 32 #[.pointer (some ⟨g, 1, none⟩), .int .i64 bs.length, .bool b] w fun e w' => e = .returned (.tuple #[]) ∧ ∃ v', w'.heap[g]? = some (.cells #[c, v'] T) ∧ Mk w' v' (bs ++ [b]) ∧ Ch (fun i => i = g ∨ v.ownBlock = some i) w w' ∧ ∀ i, v'.ownBlock = some i → v.ownBlock = some i ∨ w.heap.size ≤ i := by
  by_cases hm : bs.length % 64 = 0
  · cases b
    · exact putFirst w g T c v bs h1 h hT hn hm
    · exact putFirstM w g T c v bs h1 h hT hn hm
  · cases b
    · exact putPlain w g T c v bs h1 h hn hm
    · exact putMark w g T c v bs h1 h hT hn hm
end Go.Proofs.YtffbcccbhofbpaaGreatDoor

/- A column of numbers: one cell more. -/
namespace Go.Proofs.YtffbcccbhofbpaaGreatDoor
open Go.RowKit

theorem putAtN (w : World) (g T : Nat) (c v : Value) (bs : List Bool) (b : Bool) (n : Nat) (e : bs.length = n) (h1 : w.heap[g]? = some (.cells #[c, v] T)) (h : Mk w v bs) (hT : T ≠ 83) (hn : n ≤ 17592186044416) :
    Calls Tryz.prog 32 #[.pointer (some ⟨g, 1, none⟩), .int .i64 n, .bool b] w fun e w' => e = .returned (.tuple #[]) ∧ ∃ v', w'.heap[g]? = some (.cells #[c, v'] T) ∧ Mk w' v' (bs ++ [b]) ∧ Ch (fun i => i = g ∨ v.ownBlock = some i) w w' ∧ ∀ i, v'.ownBlock = some i → v.ownBlock = some i ∨ w.heap.size ≤ i := by
  subst e
  exact putAt w g T c v bs b h1 h hT hn
theorem rows_apart {w : World} {e s e2 s2 : Nat} {v u : Value} {n m : Nat} {xs ys : List Value} (h : w.ownsRow 0 e s v n xs) (k : w.ownsRow 0 e2 s2 u m ys) (ht : e ≠ e2) {i : Nat} (hv : v.ownBlock = some i) : u.ownBlock ≠ some i := by
  rcases h.2 with ⟨rfl, _⟩ | ⟨g, cap, cur, rfl, h1, h2, h3⟩
  · cases hv
  · cases hv
    exact row_not k h2 ht
theorem info2b : (Tryz.prog.info? 2).map (fun i => (i.zero, i.size, i.bytes)) = some (some (.int .i64 0), 1, 8) := by kernel_rfl
/-- The cells of a column of numbers. -/
def cellsNum (xs : List (Option Int)) : List Value := xs.flatMap fun x => match x with | none => (.int .i64 0 : Value).cells.toList | some n => [.int .i64 n]
theorem cellsNum_snoc (xs : List (Option Int)) (x : Option Int) : cellsNum (xs ++ [x]) = cellsNum xs ++ cellsNum [x] := by simp [cellsNum]
/-- A column of numbers lies at block g; its blocks are F. -/
def ColNum (w : World) (g : Nat) (xs : List (Option Int)) (F : Nat → Prop) : Prop :=
  ∃ v u, w.heap[g]? = some (.cells #[v, u] 72) ∧ w.ownsRow 0 2 1 v xs.length (cellsNum xs) ∧ Mk w u (xs.map Option.isNone) ∧ ∀ i, F i ↔ i = g ∨ v.ownBlock = some i ∨ u.ownBlock = some i
theorem ColNum.lt {w : World} {g : Nat} {xs : List (Option Int)} {F : Nat → Prop} (h : ColNum w g xs F) {i : Nat} (hi : F i) : i < w.heap.size := by
  obtain ⟨v, u, h1, h2, h3, h4⟩ := h
  rcases (h4 i).1 hi with rfl | e | e
  · exact lt_of_heap h1
  · exact row_lt h2 e
  · exact row_lt h3 e
theorem ColNum.keep {w w' : World} {g : Nat} {xs : List (Option Int)} {F : Nat → Prop} (h : ColNum w g xs F) (k : ∀ i, F i → w'.heap[i]? = w.heap[i]?) : ColNum w' g xs F := by
  obtain ⟨v, u, h1, h2, h3, h4⟩ := h
  exact ⟨v, u, (k g ((h4 g).2 (.inl rfl))).trans h1, row_keep h2 fun i hi => k i ((h4 i).2 (.inr (.inl hi))), row_keep h3 fun i hi => k i ((h4 i).2 (.inr (.inr hi))), h4⟩
theorem ColNum.below {w w' : World} {g : Nat} {xs : List (Option Int)} {F : Nat → Prop} (h : ColNum w g xs F) (k : Below w.heap.size w w') : ColNum w' g xs F := h.keep fun i hi => k.block i (h.lt hi)
theorem ColNum.ch {w w' : World} {g : Nat} {xs : List (Option Int)} {F G : Nat → Prop} (h : ColNum w g xs F) (k : Ch G w w') (d : ∀ i, F i → ¬ G i) : ColNum w' g xs F := h.keep fun i hi => k.block i (h.lt hi) (d i hi)
set_option maxRecDepth 20000 in
set_option maxHeartbeats 3200000 in
theorem ownNum (n : Int) (w : World) : Calls Tryz.prog 33 #[.int .i64 n] w fun e w' => e = .returned (.int .i64 n) ∧ Below w.heap.size w w' := by
  have t1 : ∀ (p : Option Addr) w, (Instr.typeAssert (.iface 84 (.pointer p)) 20 85 true).run Tryz.prog w = .ok (.tuple #[.pointer none, .bool false]) w := fun _ _ => by kernel_rfl
  have t2 : ∀ (p : Option Addr) w, (Instr.typeAssert (.iface 84 (.pointer p)) 20 86 true).run Tryz.prog w = .ok (.tuple #[.pointer none, .bool false]) w := fun _ _ => by kernel_rfl
  have t3 : ∀ (p : Option Addr) w, (Instr.typeAssert (.iface 84 (.pointer p)) 20 87 true).run Tryz.prog w = .ok (.tuple #[.pointer none, .bool false]) w := fun _ _ => by kernel_rfl
  go_enter Tryz.func33, Tryz.ntmps33
  go_wp2_with (simp only [t1, t2, t3, Result.andThen_ok])
  go_ret
  exact ⟨rfl, below1 _ _⟩
theorem partsNum {w w1 : World} {g : Nat} {xs : List (Option Int)} {v u u' : Value} (h1 : w.heap[g]? = some (.cells #[v, u] 72)) (h2 : w.ownsRow 0 2 1 v xs.length (cellsNum xs)) (h3 : Mk w u (xs.map Option.isNone)) (ch : Ch (fun i => i = g ∨ u.ownBlock = some i) w w1) : w1.ownsRow 0 2 1 v xs.length (cellsNum xs) :=
  row_keep h2 fun i hi => ch.block i (row_lt h2 hi) (by
    rintro (rfl | q)
    · exact row_not h2 h1 (by decide) hi
    · exact rows_apart h2 h3 (by decide) hi q)
/-- Behind the marks and the append: the column with a cell more. -/
theorem shutNum {w w1 w3 : World} {g : Nat} {xs : List (Option Int)} {F : Nat → Prop} {p p' : Option Addr} {cap cap' : Nat} {u u' : Value} {x : Option Int}
    (h1 : w.heap[g]? = some (.cells #[.slice p xs.length cap, u] 72)) (h4 : ∀ i, F i ↔ i = g ∨ (Value.slice p xs.length cap).ownBlock = some i ∨ u.ownBlock = some i)
    (m1 : Mk w1 u' (xs.map Option.isNone ++ [x.isNone])) (ch1 : Ch (fun i => i = g ∨ u.ownBlock = some i) w w1) (ft1 : ∀ i, u'.ownBlock = some i → u.ownBlock = some i ∨ w.heap.size ≤ i)
    (k1 : w1.heap[g]? = some (.cells #[.slice p xs.length cap, u'] 72)) (r1 : w1.ownsRow 0 2 1 (.slice p xs.length cap) xs.length (cellsNum xs)) {z : World} (hz : Below w1.heap.size w1 z)
    (hr : w3.ownsRow 0 2 1 (.slice p' (xs.length + 1) cap') (xs.length + 1) (cellsNum xs ++ cellsNum [x])) (hg3 : z.grownBy w3 (Value.slice p xs.length cap).ownBlock)
    (hat : ∀ i, (Value.slice p' (xs.length + 1) cap').ownBlock = some i → (Value.slice p xs.length cap).ownBlock = some i ∨ z.heap.size ≤ i) (m : Nat) :
    ∃ F', ColNum ((w3.setCell ⟨g, 0, none⟩ (.slice p' (xs.length + 1) cap')).drewN m) g (xs ++ [x]) F' ∧ Turn F F' w ((w3.setCell ⟨g, 0, none⟩ (.slice p' (xs.length + 1) cap')).drewN m) := by
  have kz := (hz.block g (lt_of_heap k1)).trans k1
  have k3 := (hg3.block g (lt_of_heap kz) (fun q => row_not r1 k1 (by decide) q.symm)).trans kz
  have hvg : (Value.slice p' (xs.length + 1) cap').ownBlock ≠ some g := row_not hr k3 (by decide)
  have zl := hz.size
  have cl := ch1.size
  have ul : ∀ i, u'.ownBlock = some i → i < w1.heap.size := fun i hi => row_lt m1 hi
  have um : Mk w3 u' (xs.map Option.isNone ++ [x.isNone]) := row_keep m1 fun i hi => (hg3.block i (by have := ul i hi; omega) (fun q => rows_apart r1 m1 (by decide) q.symm hi)).trans (hz.block i (ul i hi))
  have hug : u'.ownBlock ≠ some g := row_not m1 k1 (by decide)
  have hF : ∀ i, i < w.heap.size → (Value.slice p xs.length cap).ownBlock = some i → F i := fun i _ q => (h4 i).2 (.inr (.inl q))
  have ch3 : Ch F w w3 := ((ch1.mono (G := F) fun i _ q => (h4 i).2 (q.imp id .inr)).trans (Ch.of_below (F := F) hz) (fun _ _ g => g)).trans (Ch.of_grown hg3) hF
  refine ⟨fun i => i = g ∨ (Value.slice p' (xs.length + 1) cap').ownBlock = some i ∨ u'.ownBlock = some i, ⟨_, _, heap_set k3 0 _, ?_, ?_, fun i => Iff.rfl⟩, (ch3.setCell (a := ⟨g, 0, none⟩) (.inl ((h4 g).2 (.inl rfl))) _).drewN m, ?_⟩
  · rw [List.length_append, cellsNum_snoc]
    exact row_keep hr fun i q => Below.heap_setCell _ _ _ _ (fun e => hvg (by rw [q]; exact congrArg some e))
  · rw [List.map_append]
    exact row_keep um fun i q => Below.heap_setCell _ _ _ _ (fun e => hug (by rw [q]; exact congrArg some e))
  · rintro i (rfl | q | q)
    · exact .inl ((h4 i).2 (.inl rfl))
    · rcases hat i q with e | e
      · exact .inl ((h4 i).2 (.inr (.inl e)))
      · exact .inr (by omega)
    · rcases ft1 i q with e | e
      · exact .inl ((h4 i).2 (.inr (.inr e)))
      · exact .inr e
theorem foot_of {v v' : Value} {z : World} (h : v'.ownBlock = v.ownBlock ∨ v'.ownBlock = some z.heap.size) : ∀ i, v'.ownBlock = some i → v.ownBlock = some i ∨ z.heap.size ≤ i := fun i q => by
  rcases h with e | e
  · exact .inl (e.symm.trans q)
  · rw [q] at e; cases e; exact .inr (Nat.le_refl _)
set_option maxRecDepth 20000 in
set_option maxHeartbeats 3200000 in
theorem putNullNum (w : World) (g : Nat) (xs : List (Option Int)) (F : Nat → Prop) (h : ColNum w g xs F) (hn : xs.length < 17592186044416) :
    Calls Tryz.prog 18 #[.pointer (some ⟨g, 0, none⟩)] w fun e w' => e = .returned (.tuple #[]) ∧ ∃ F', ColNum w' g (xs ++ [none]) F' ∧ Turn F F' w w' := by
  obtain ⟨i0, hi, hz0, hz1, hz2⟩ := info_parts info2b
  obtain ⟨v, u, h1, h2, h3, h4⟩ := h
  obtain ⟨p, cap, rfl⟩ := row_slice h2
  have c0 : w.cell? ⟨g, 0, none⟩ = some (.slice p xs.length cap) := cell_of h1 0 rfl
  have hl : (xs.map Option.isNone).length = xs.length := by simp
  have HL := Lib.hid hl
  clear hl
  go_enter Tryz.func18, Tryz.ntmps18
  go_wp2_with fail
  go_region_with (go_at_call 32; refine (putAtN w.drew g 72 _ u _ true _ HL.out h1 h3 (by decide) (by omega)).mono ?_; rintro e w1 ⟨rfl, u', k1, m1, ch1, ft1⟩)
  replace ch1 : Ch (fun i => i = g ∨ u.ownBlock = some i) w w1 := ⟨ch1.os, ch1.tape, ch1.output, ch1.size, ch1.block⟩
  replace ft1 : ∀ i, u'.ownBlock = some i → u.ownBlock = some i ∨ w.heap.size ≤ i := ft1
  have r1 := partsNum (u' := u') h1 h2 h3 ch1
  have q1 : w1.cell? ⟨g, 0, none⟩ = some (.slice p xs.length cap) := cell_of k1 0 rfl
  have q2 : w1.frozen? ⟨g, 0, none⟩ = false := free_of k1 0
  clear c0
  go_wp2_with (at_builtin; refine Hid.out ?_)
  refine Lib.hid ?_
  refine wpList_append_own_at _ rfl _ _ 67 rfl 0 2 i0 (.int .i64 0) 1 8 Tryz.underlying67 hi hz0 hz1 hz2 rfl (by decide) _ _ _ rfl (r1.alloc _) ⟨w1.heap.size, 0, none⟩ 1 1 [.int .i64 0] rfl rfl (cell_one_new _ _ _) ?_ ?_ ?_ ?_ ?_
  all_goals (try (first | (intro u hu; simp at hu; subst hu; rfl) | (intro u hu; simp at hu; rcases hu with rfl | rfl <;> rfl) | (unfold maxLen; omega) | omega | (simp; done)))
  intro v' w3 hr hg3 _ hat
  obtain ⟨p', cap', rfl⟩ := row_slice hr
  have k3 := (hg3.block g (by simp; have := lt_of_heap k1; omega) (fun q => row_not r1 k1 (by decide) q.symm)).trans (heap_old _ k1)
  have q3 : w3.cell? ⟨g, 0, none⟩ = some (.slice p xs.length cap) := cell_of k3 0 rfl
  have q4 : w3.frozen? ⟨g, 0, none⟩ = false := free_of k3 0
  have hfin := shutNum (x := none) h1 h4 m1 ch1 ft1 k1 r1 (below1 w1 (.cells #[.int .i64 0] 2)) hr hg3 (foot_of hat) 0
  clear q1 q2 h1 h2 h3 h4 hr hg3 hat k3 k1 r1 m1 ch1 ft1
  go_wp2_with fail
  go_end0
  exact ⟨rfl, hfin⟩
set_option maxRecDepth 20000 in
set_option maxHeartbeats 3200000 in
theorem putNum (w : World) (g : Nat) (xs : List (Option Int)) (F : Nat → Prop) (h : ColNum w g xs F) (hn : xs.length < 17592186044416) (n : Int) :
    Calls Tryz.prog 17 #[.pointer (some ⟨g, 0, none⟩), (.int .i64 n)] w fun e w' => e = .returned (.tuple #[]) ∧ ∃ F', ColNum w' g (xs ++ [some n]) F' ∧ Turn F F' w w' := by
  obtain ⟨i0, hi, hz0, hz1, hz2⟩ := info_parts info2b
  obtain ⟨v, u, h1, h2, h3, h4⟩ := h
  obtain ⟨p, cap, rfl⟩ := row_slice h2
  have c0 : w.cell? ⟨g, 0, none⟩ = some (.slice p xs.length cap) := cell_of h1 0 rfl
  have hl : (xs.map Option.isNone).length = xs.length := by simp
  have HL := Lib.hid hl
  clear hl
  go_enter Tryz.func17, Tryz.ntmps17
  go_wp2_with fail
  go_region_with (go_at_call 32; refine (putAtN w.drew g 72 _ u _ false _ HL.out h1 h3 (by decide) (by omega)).mono ?_; rintro e w1 ⟨rfl, u', k1, m1, ch1, ft1⟩)
  replace ch1 : Ch (fun i => i = g ∨ u.ownBlock = some i) w w1 := ⟨ch1.os, ch1.tape, ch1.output, ch1.size, ch1.block⟩
  replace ft1 : ∀ i, u'.ownBlock = some i → u.ownBlock = some i ∨ w.heap.size ≤ i := ft1
  have r1 := partsNum (u' := u') h1 h2 h3 ch1
  have q1 : w1.cell? ⟨g, 0, none⟩ = some (.slice p xs.length cap) := cell_of k1 0 rfl
  have q2 : w1.frozen? ⟨g, 0, none⟩ = false := free_of k1 0
  clear c0
  go_wp2_with fail
  go_region_law (first
    | (refine step_append_lies _ (by rfl) _ _ _ (by rfl) 0 2 i0 _ 1 8 Tryz.underlying67 hi hz0 hz1 hz2 rfl (by omega) (.slice p xs.length cap) xs.length (cellsNum xs) (by rfl) (r5.alloc _)
        ⟨w5.heap.size, 0, none⟩ 1 1 [.int .i64 n] (by rfl) (by rfl) (World.news_of_block (cs := #[.int .i64 n]) (t := 2) (fr := (0, 0)) (by exact heap_new _ _ rfl)) (by simp [Value.oneCell'])
        (by omega) (by unfold maxLen; omega) (by omega) (Nat.zero_le _) (w5.heap.size + 1) (by simp) ?_; intro gg cap' w3 hr hg3 hat hlt
       have k3 := (hg3.block g (by simp; have := lt_of_heap k5; omega) (fun q => row_not r5 k5 (by decide) q.symm)).trans (heap_old _ k5)
       have q3 : w3.cell? ⟨g, 0, none⟩ = some (.slice p xs.length cap) := cell_of k3 0 rfl
       have q4 : w3.frozen? ⟨g, 0, none⟩ = false := free_of k3 0)
    | (go_simp; go_at_call 33; refine (ownNum n w1.drew).mono ?_; rintro e w5 ⟨rfl, hb5⟩
       replace hb5 : Below w1.heap.size w1 w5 := ⟨hb5.os, hb5.tape, hb5.output, hb5.size, hb5.block⟩
       have k5 : w5.heap[g]? = some (.cells #[.slice p xs.length cap, u'] 72) := (hb5.block g (lt_of_heap k1)).trans k1
       have r5 : w5.ownsRow 0 2 1 (.slice p xs.length cap) xs.length (cellsNum xs) := row_keep r1 fun i hi => hb5.block i (row_lt r1 hi)
       have q5 : w5.cell? ⟨g, 0, none⟩ = some (.slice p xs.length cap) := cell_of k5 0 rfl
       have q6 : (w5.alloc (.cells #[.int .i64 n] 2)).cell? ⟨g, 0, none⟩ = some (.slice p xs.length cap) := cell_of (heap_old _ k5) 0 rfl))
  all_goals
    have hfin := shutNum (x := some n) h1 h4 m1 ch1 ft1 k1 r1 (hb5.alloc hb5.size (.cells #[.int .i64 n] 2)) hr hg3 (foot_of (hat.imp (fun e => e.symm) (fun e => by rw [e]; simp [Value.ownBlock]))) 0
    clear q1 q2 h1 h2 h3 h4 hr hg3 hat k3 k1 r1 m1 ch1 ft1
    go_end0
    exact ⟨rfl, hfin⟩
end Go.Proofs.YtffbcccbhofbpaaGreatDoor

/- A column of numbers: a new one; how many cells, how many nulls; a cell. -/
namespace Go.Proofs.YtffbcccbhofbpaaGreatDoor
open Go.RowKit

theorem cellsNum_map (xs : List (Option Int)) : cellsNum xs = xs.map fun x => (.int .i64 (x.getD 0)) := by
  induction xs with
  | nil => rfl
  | cons x r ih =>
    have e : cellsNum (x :: r) = cellsNum [x] ++ cellsNum r := by simp [cellsNum]
    rw [e, ih]
    cases x <;> rfl
set_option maxRecDepth 20000 in
set_option maxHeartbeats 3200000 in
theorem newColNum (w : World) : Calls Tryz.prog 15 #[] w fun e w' => ∃ g F, e = .returned (.pointer (some ⟨g, 0, none⟩)) ∧ Below w.heap.size w w' ∧ ColNum w' g [] F ∧ ∀ i, F i → w.heap.size ≤ i := by
  go_enter Tryz.func15, Tryz.ntmps15
  go_wp2_with fail
  go_ret
  refine ⟨_, fun i => i = w.heap.size, rfl, below1 _ _, ⟨.slice none 0 0, .slice none 0 0, heap_new _ _ rfl, World.ownsRow_nil _ _ _ _, World.ownsRow_nil _ _ _ _, fun i => by simp [Value.ownBlock]⟩, by rintro i rfl; exact Nat.le_refl _⟩
set_option maxRecDepth 20000 in
set_option maxHeartbeats 3200000 in
theorem lenNum (w : World) (g : Nat) (xs : List (Option Int)) (F : Nat → Prop) (h : ColNum w g xs F) :
    Calls Tryz.prog 20 #[.pointer (some ⟨g, 0, none⟩)] w fun e w' => e = .returned (.int .i64 xs.length) ∧ w = w' := by
  obtain ⟨v, u, h1, h2, h3, h4⟩ := h
  obtain ⟨p, cap, rfl⟩ := row_slice h2
  have c0 : w.cell? ⟨g, 0, none⟩ = some (.slice p xs.length cap) := cell_of h1 0 rfl
  clear h4
  go_enter Tryz.func20, Tryz.ntmps20
  go_wp2_with fail
  go_ret
  exact ⟨rfl, rfl⟩
set_option maxRecDepth 20000 in
set_option maxHeartbeats 3200000 in
theorem nullsNum (w : World) (g : Nat) (xs : List (Option Int)) (F : Nat → Prop) (h : ColNum w g xs F) (hn : xs.length ≤ 1152921504606846976) :
    Calls Tryz.prog 21 #[.pointer (some ⟨g, 0, none⟩)] w fun e w' => e = .returned (.int .i64 ((xs.map Option.isNone).filter id).length) ∧ w = w' := by
  obtain ⟨v, u, h1, h2, h3, h4⟩ := h
  have hc := countM w g 72 v u _ h1 h3 (by simpa using hn)
  clear h4
  go_enter Tryz.func21, Tryz.ntmps21
  go_wp2_with (go_at_call 34; (with_reducible refine hc.mono ?_); rintro e w1 ⟨rfl, rfl⟩)
  go_ret
  exact ⟨rfl, rfl⟩
end Go.Proofs.YtffbcccbhofbpaaGreatDoor

/- A dictionary of values: a new one; the number of the first value, 3. -/
namespace Go.Proofs.YtffbcccbhofbpaaGreatDoor
open Go.RowKit

set_option maxRecDepth 20000 in
set_option maxHeartbeats 3200000 in
theorem newValues (w : World) : Calls Tryz.prog 6 #[] w fun e w' => ∃ g F, e = .returned (.pointer (some ⟨g, 0, none⟩)) ∧ Below w.heap.size w w' ∧ Dic w' g [] F ∧ ∀ i, F i → w.heap.size ≤ i := by
  go_enter Tryz.func6, Tryz.ntmps6
  go_wp2_with (go_at_call 22; (with_reducible refine (newNumAt _).mono ?_); rintro e w1 ⟨rfl, hb, hm⟩)
  go_ret
  have z1 := lt_of_heap hm
  exact ⟨_, _, rfl, hb.alloc hb.size _, dic_new (by decide) (heap_new _ _ rfl) (heap_old _ hm), by rintro i (rfl | rfl) <;> omega⟩
set_option maxRecDepth 20000 in
set_option maxHeartbeats 3200000 in
theorem valuesLen (w : World) (g : Nat) (l : List ByteArray) (F : Nat → Prop) (h : Dic w g l F) :
    Calls Tryz.prog 11 #[.pointer (some ⟨g, 0, none⟩)] w fun e w' => e = .returned (.int .i64 l.length) ∧ w = w' := by
  go_enter Tryz.func11, Tryz.ntmps11
  go_wp2_with (go_at_call 28; (with_reducible refine (countAtG w g l F h).mono ?_); rintro e w1 ⟨rfl, rfl⟩)
  go_ret
  exact ⟨rfl, rfl⟩
end Go.Proofs.YtffbcccbhofbpaaGreatDoor

/- minus. -/
namespace Go.Proofs.YtffbcccbhofbpaaGreatDoor
open Go.RowKit

end Go.Proofs.YtffbcccbhofbpaaGreatDoor

/- parseBoth. -/
namespace Go.Proofs.YtffbcccbhofbpaaGreatDoor
open Go.RowKit

end Go.Proofs.YtffbcccbhofbpaaGreatDoor

/- reckon, Add, Sub. -/
namespace Go.Proofs.YtffbcccbhofbpaaGreatDoor
open Go.RowKit

theorem damt_sum {s t : List UInt8} (h : chk s = true) (h2 : chk t = true) : damt s + damt t < BASE ^ 16 := by
  have a := (chk_dec s h).2.1
  have b := (chk_dec t h2).2.1
  have e : BASE ^ 16 = 10 ^ 144 := base_pow 16
  rw [e]
  have : (10 : Nat) ^ 94 + 10 ^ 94 ≤ 10 ^ 144 := by decide
  omega

end Go.Proofs.YtffbcccbhofbpaaGreatDoor

/- compare. -/
namespace Go.Proofs.YtffbcccbhofbpaaGreatDoor
open Go.RowKit

theorem cmpS_ff (x y : Nat) : cmpS false x false y = cmpI x y := by simp [cmpS]
theorem cmpS_ft (x y : Nat) : cmpS false x true y = 1 := by simp [cmpS]
theorem cmpS_tf (x y : Nat) : cmpS true x false y = -1 := by simp [cmpS]
theorem cmpS_tt (x y : Nat) : cmpS true x true y = cmpI y x := by simp [cmpS]

end Go.Proofs.YtffbcccbhofbpaaGreatDoor

/- The laws of decimals, as laws of whole numbers. No Go stands here. -/
namespace Go.Proofs.YtffbcccbhofbpaaGreatDoor

/-- The product. -/
def dmul (l r : List UInt8) : Int := sv (dsign l != dsign r) (damt l * damt r / 10 ^ 54)
/-- The quotient, cut behind twenty digits. -/
def dquo (l r : List UInt8) : Int := sv (dsign l != dsign r) (damt l * 10 ^ 20 / damt r * 10 ^ 34)
/-- -1, 0 or 1. -/
def cmpZ (x y : Int) : Int := if x < y then -1 else if y < x then 1 else 0

theorem cmpZ_bound (x y : Int) : -1 ≤ cmpZ x y ∧ cmpZ x y ≤ 1 := by unfold cmpZ; split <;> (try split) <;> omega
theorem cmpZ_swap (x y : Int) : cmpZ y x = -cmpZ x y := by unfold cmpZ; split <;> split <;> (try split) <;> omega
theorem cmpZ_neg (x y : Int) : cmpZ (-x) (-y) = -cmpZ x y := by unfold cmpZ; split <;> split <;> (try split) <;> (try split) <;> omega
theorem cmpZ_zero (x y : Int) : cmpZ x y = 0 ↔ x = y := by unfold cmpZ; split <;> (try split) <;> omega

theorem natAbs_sv (n : Bool) (x : Nat) : (sv n x).natAbs = x := by unfold sv; cases n <;> simp
theorem dval_lt {l : List UInt8} (h : chk l = true) : (dval l).natAbs < 10 ^ 94 := by
  unfold dval; rw [natAbs_sv]; exact (chk_dec l h).2.1
theorem dval_inj {l r : List UInt8} (h : chk l = true) (h2 : chk r = true) : dval l = dval r ↔ l = r := by
  constructor
  · intro e
    have a := (chk_dec l h).1
    have b := (chk_dec r h2).1
    rw [e, b] at a
    exact (Option.some.inj a).symm
  · rintro rfl; rfl

theorem txt_neg {z : Int} {l : List UInt8} (h : txt z = some l) : ∃ r, txt (-z) = some r := by
  unfold txt wrN wr at *
  simp only [Int.natAbs_neg] at *
  split at h
  · cases h
  · rename_i hl
    rw [if_neg hl]
    exact ⟨_, rfl⟩

theorem dmul_comm (l r : List UInt8) : dmul l r = dmul r l := by
  unfold dmul
  rw [Nat.mul_comm, show (dsign l != dsign r) = (dsign r != dsign l) by cases dsign l <;> cases dsign r <;> rfl]

theorem exact34 {x : Nat} (h : x % 10 ^ 34 = 0) : x = x / 10 ^ 34 * 10 ^ 34 := by
  have := Nat.div_add_mod x (10 ^ 34)
  rw [h, Nat.add_zero, Nat.mul_comm] at this
  exact this.symm

theorem p68 : (10 : Nat) ^ 34 * 10 ^ 34 = 10 ^ 14 * 10 ^ 54 := by decide
theorem p34 : (10 : Nat) ^ 14 * 10 ^ 20 = 10 ^ 34 := by decide
theorem prod_exact {x y : Nat} (hx : x % 10 ^ 34 = 0) (hy : y % 10 ^ 34 = 0) : x * y / 10 ^ 54 = x / 10 ^ 34 * (y / 10 ^ 34) * 10 ^ 14 := by
  generalize hA : x / 10 ^ 34 = A
  generalize hB : y / 10 ^ 34 = B
  have e1 := exact34 hx
  have e2 := exact34 hy
  rw [hA] at e1
  rw [hB] at e2
  have e : x * y = A * B * 10 ^ 14 * 10 ^ 54 := by
    rw [e1, e2, Nat.mul_assoc (A * B), ← p68]
    generalize (10 : Nat) ^ 34 = T
    ac_rfl
  rw [e, Nat.mul_div_cancel _ (by decide)]

theorem dmul_lt {l r : List UInt8} (h : chk l = true) (h2 : chk r = true) : (dmul l r).natAbs < 10 ^ 144 := by
  unfold dmul
  rw [natAbs_sv, Nat.div_lt_iff_lt_mul (by decide)]
  have a := (chk_dec l h).2.1
  have b := (chk_dec r h2).2.1
  have h3 : damt l * damt r ≤ 10 ^ 94 * 10 ^ 94 := Nat.mul_le_mul (by omega) (by omega)
  have h4 : (10 : Nat) ^ 94 * 10 ^ 94 < 10 ^ 144 * 10 ^ 54 := by decide
  omega

/-- A product divided by what it was multiplied with. -/
theorem quo_mul {l r m : List UInt8} (h : chk l = true) (h2 : chk r = true) (h0 : damt r ≠ 0) (hm : txt (dmul l r) = some m) : dquo m r = dval l := by
  obtain ⟨_, dm⟩ := txt_dec _ (dmul_lt h h2) m hm
  obtain ⟨_, _, a2, a3, _⟩ := chk_dec l h
  obtain ⟨_, _, b2, b3, _⟩ := chk_dec r h2
  have e1 : damt m = damt l / 10 ^ 34 * (damt r / 10 ^ 34) * 10 ^ 14 := by
    have := congrArg Int.natAbs dm
    unfold dval dmul at this
    rwa [natAbs_sv, natAbs_sv, prod_exact a2 b2] at this
  have x1 := exact34 a2
  have x2 := exact34 b2
  generalize hA : damt l / 10 ^ 34 = A at *
  generalize hB : damt r / 10 ^ 34 = B at *
  have hB0 : 0 < B := by
    by_cases e : B = 0
    · rw [e, Nat.zero_mul] at x2; exact absurd x2 h0
    · omega
  have e2 : damt m * 10 ^ 20 / damt r = A := by
    rw [e1, x2, Nat.mul_assoc _ (10 ^ 14), p34, Nat.mul_assoc A B]
    exact Nat.mul_div_cancel _ (Nat.mul_pos hB0 (by decide))
  have hs : sv (dsign m) (damt m) = sv (dsign l != dsign r) (damt m) := by
    have := dm
    unfold dval dmul at this
    rw [prod_exact a2 b2, hA, hB, ← e1] at this
    exact this
  unfold dquo dval
  rw [e2, ← x1]
  by_cases hz : damt l = 0
  · rw [hz]; unfold sv; simp
  · have hm0 : damt m ≠ 0 := by
      rw [e1]
      have : 0 < A := by
        by_cases e : A = 0
        · rw [e, Nat.zero_mul] at x1; exact absurd x1 hz
        · omega
      have : 0 < A * B * 10 ^ 14 := Nat.mul_pos (Nat.mul_pos this hB0) (by decide)
      omega
    have hsm : dsign m = (dsign l != dsign r) := by
      unfold sv at hs
      cases h3 : dsign m <;> cases h4 : (dsign l != dsign r) <;> simp only [h3, h4, Bool.false_eq_true, if_false, if_true] at hs <;> first | rfl | omega
    rw [hsm]
    congr 1
    cases dsign l <;> cases dsign r <;> rfl

theorem dec_zero {l : List UInt8} (h : chk l = true) (h0 : damt l = 0) : l = [48, 46, 48] := by
  have a := (chk_dec l h).1
  have e : dval l = 0 := by unfold dval sv; rw [h0]; simp
  rw [e] at a
  have z : txt 0 = some [48, 46, 48] := by decide +kernel
  rw [z] at a
  exact (Option.some.inj a).symm

end Go.Proofs.YtffbcccbhofbpaaGreatDoor

/- Div, Neg, Compare. -/
namespace Go.Proofs.YtffbcccbhofbpaaGreatDoor
open Go.RowKit

theorem quo_text (l r : List UInt8) (h : chk l = true) (h2 : chk r = true) (h0 : damt r ≠ 0) :
    wr (dsign l != dsign r) (digsOf (damt l * 10 ^ 20 / damt r) 20 144) (digsOf (damt l * 10 ^ 20 / damt r) 0 20) = txt (dquo l r) := by
  obtain ⟨_, a1, _⟩ := chk_dec l h
  obtain ⟨_, _, b2, _⟩ := chk_dec r h2
  have hr : 10 ^ 34 ≤ damt r := by
    have := Nat.div_add_mod (damt r) (10 ^ 34)
    rw [b2] at this
    have hp : 1 ≤ damt r / 10 ^ 34 := by
      by_cases e : damt r / 10 ^ 34 = 0
      · rw [e] at this; omega
      · omega
    have : 10 ^ 34 * 1 ≤ 10 ^ 34 * (damt r / 10 ^ 34) := Nat.mul_le_mul_left _ hp
    omega
  obtain ⟨Q, hQ⟩ : ∃ Q, Q = damt l * 10 ^ 20 / damt r := ⟨_, rfl⟩
  unfold dquo
  rw [← hQ, ← wrN_sv]
  have hQlt : Q / 10 ^ 20 < 10 ^ 90 := by
    have h1 : Q ≤ damt l * 10 ^ 20 / 10 ^ 34 := by rw [hQ]; exact Nat.div_le_div_left hr (by decide)
    have h3 : damt l * 10 ^ 20 / 10 ^ 34 ≤ damt l * 10 ^ 20 := Nat.div_le_self _ _
    rw [Nat.div_lt_iff_lt_mul (by decide)]
    have h4 : damt l * 10 ^ 20 / 10 ^ 34 < 10 ^ 80 := by
      rw [Nat.div_lt_iff_lt_mul (by decide)]
      have : damt l * 10 ^ 20 < 10 ^ 94 * 10 ^ 20 := Nat.mul_lt_mul_of_pos_right a1 (by decide)
      rw [← Nat.pow_add] at this ⊢
      exact this
    have h5 : (10 : Nat) ^ 80 ≤ 10 ^ 90 * 10 ^ 20 := by decide
    omega
  have v1 : valD (digsOf Q 20 144) = Q / 10 ^ 20 := by
    rw [digsOf_val, Nat.mod_eq_of_lt]
    have : (10 : Nat) ^ 90 ≤ 10 ^ 144 := by decide
    omega
  rw [wr_wrN _ _ _ (digsOf_dig _ _ _) (digsOf_dig _ _ _) (by rw [v1]; exact hQlt) (by rw [digsOf_len]; omega), v1, digsOf_val, digsOf_len, Nat.pow_zero, Nat.div_one]
  have e : (10 : Nat) ^ 54 = 10 ^ 20 * 10 ^ 34 := by rw [← Nat.pow_add]
  have key : Q / 10 ^ 20 * 10 ^ 54 + Q % 10 ^ 20 * 10 ^ (54 - 20) = Q * 10 ^ 34 := by
    rw [show 54 - 20 = 34 by omega, e, ← Nat.mul_assoc, ← Nat.add_mul, Nat.mul_comm (Q / 10 ^ 20), Nat.div_add_mod]
  rw [key]

theorem cmpS_val (l r : List UInt8) (h : chk l = true) (h2 : chk r = true) : cmpS (dsign l) (damt l) (dsign r) (damt r) = cmpZ (dval l) (dval r) := by
  have a := (chk_dec l h).2.2.2.1
  have b := (chk_dec r h2).2.2.2.1
  unfold dval sv cmpS cmpZ cmpI
  generalize damt l = x at *
  generalize damt r = y at *
  cases h3 : dsign l <;> cases h4 : dsign r <;> simp only [h3, h4, Bool.false_eq_true, if_false, if_true, Bool.not_true, Bool.not_false, Bool.and_true, Bool.and_false, Bool.false_and, Bool.true_and, Bool.and_self, Int.ofNat_lt, Int.neg_lt_neg_iff] at *
  · have := b trivial
    rw [if_neg (by omega), if_pos (by omega)]
  · have := a trivial
    rw [if_pos (by omega)]

end Go.Proofs.YtffbcccbhofbpaaGreatDoor
