/- A column of numbers: one cell more. -/
import Derived.Test.YtffbcccbhofbpaaDoorC2
import Derived.Deep.RegionWith
import Derived.Deep.RegionLaw
import Derived.Deep.AppendLies
namespace Go.Proofs.YtffbcccbhofbpaaDoor
open Go.RowKit

theorem putAtN (w : World) (g T : Nat) (c v : Value) (bs : List Bool) (b : Bool) (n : Nat) (e : bs.length = n) (h1 : w.heap[g]? = some (.cells #[c, v] T)) (h : Mk w v bs) (hT : T ≠ 128) (hn : n ≤ 17592186044416) :
    Calls Tryd.prog 59 #[.pointer (some ⟨g, 1, none⟩), .int .i64 n, .bool b] w fun e w' => e = .returned (.tuple #[]) ∧ ∃ v', w'.heap[g]? = some (.cells #[c, v'] T) ∧ Mk w' v' (bs ++ [b]) ∧ Ch (fun i => i = g ∨ v.ownBlock = some i) w w' ∧ ∀ i, v'.ownBlock = some i → v.ownBlock = some i ∨ w.heap.size ≤ i := by
  subst e
  exact putAt w g T c v bs b h1 h hT hn
theorem rows_apart {w : World} {e s e2 s2 : Nat} {v u : Value} {n m : Nat} {xs ys : List Value} (h : w.ownsRow 0 e s v n xs) (k : w.ownsRow 0 e2 s2 u m ys) (ht : e ≠ e2) {i : Nat} (hv : v.ownBlock = some i) : u.ownBlock ≠ some i := by
  rcases h.2 with ⟨rfl, _⟩ | ⟨g, cap, cur, rfl, h1, h2, h3⟩
  · cases hv
  · cases hv
    exact row_not k h2 ht
theorem info2b : (Tryd.prog.info? 2).map (fun i => (i.zero, i.size, i.bytes)) = some (some (.int .i64 0), 1, 8) := by kernel_rfl
/-- The cells of a column of numbers. -/
def cellsNum (xs : List (Option Int)) : List Value := xs.flatMap fun x => match x with | none => (.int .i64 0 : Value).cells.toList | some n => [.int .i64 n]
theorem cellsNum_snoc (xs : List (Option Int)) (x : Option Int) : cellsNum (xs ++ [x]) = cellsNum xs ++ cellsNum [x] := by simp [cellsNum]
/-- A column of numbers lies at block g; its blocks are F. -/
def ColNum (w : World) (g : Nat) (xs : List (Option Int)) (F : Nat → Prop) : Prop :=
  ∃ v u, w.heap[g]? = some (.cells #[v, u] 109) ∧ w.ownsRow 0 2 1 v xs.length (cellsNum xs) ∧ Mk w u (xs.map Option.isNone) ∧ ∀ i, F i ↔ i = g ∨ v.ownBlock = some i ∨ u.ownBlock = some i
theorem ColNum.lt {w : World} {g : Nat} {xs : List (Option Int)} {F : Nat → Prop} (h : ColNum w g xs F) {i : Nat} (hi : F i) : i < w.heap.size := by
  obtain ⟨v, u, h1, h2, h3, h4⟩ := h
  rcases (h4 i).1 hi with rfl | e | e
  · exact lt_of_heap h1
  · exact row_lt h2 e
  · exact row_lt h3 e
theorem ColNum.keep {w w' : World} {g : Nat} {xs : List (Option Int)} {F : Nat → Prop} (h : ColNum w g xs F) (k : ∀ i, F i → w'.heap[i]? = w.heap[i]?) : ColNum w' g xs F := by
  obtain ⟨v, u, h1, h2, h3, h4⟩ := h
  exact ⟨v, u, (k g ((h4 g).2 (.inl rfl))).trans h1, row_keep h2 fun i hi => k i ((h4 i).2 (.inr (.inl hi))), row_keep h3 fun i hi => k i ((h4 i).2 (.inr (.inr hi))), h4⟩
theorem ColNum.below {w w' : World} {g : Nat} {xs : List (Option Int)} {F : Nat → Prop} (h : ColNum w g xs F) (k : Below w.heap.size w w') : ColNum w' g xs F := h.keep fun i hi => k.block i (h.lt hi)
theorem ColNum.ch {w w' : World} {g : Nat} {xs : List (Option Int)} {F G : Nat → Prop} (h : ColNum w g xs F) (k : Ch G w w') (d : ∀ i, F i → ¬ G i) : ColNum w' g xs F := h.keep fun i hi => k.block i (h.lt hi) (d i hi)
set_option maxRecDepth 20000 in
set_option maxHeartbeats 3200000 in
theorem ownNum (n : Int) (w : World) : Calls Tryd.prog 60 #[.int .i64 n] w fun e w' => e = .returned (.int .i64 n) ∧ Below w.heap.size w w' := by
  have t1 : ∀ (p : Option Addr) w, (Instr.typeAssert (.iface 129 (.pointer p)) 20 130 true).run Tryd.prog w = .ok (.tuple #[.pointer none, .bool false]) w := fun _ _ => by kernel_rfl
  have t2 : ∀ (p : Option Addr) w, (Instr.typeAssert (.iface 129 (.pointer p)) 20 131 true).run Tryd.prog w = .ok (.tuple #[.pointer none, .bool false]) w := fun _ _ => by kernel_rfl
  have t3 : ∀ (p : Option Addr) w, (Instr.typeAssert (.iface 129 (.pointer p)) 20 133 true).run Tryd.prog w = .ok (.tuple #[.pointer none, .bool false]) w := fun _ _ => by kernel_rfl
  go_enter Tryd.func60, Tryd.ntmps60
  go_wp2_with (simp only [t1, t2, t3, Result.andThen_ok])
  go_ret
  exact ⟨rfl, below1 _ _⟩
theorem partsNum {w w1 : World} {g : Nat} {xs : List (Option Int)} {v u u' : Value} (h1 : w.heap[g]? = some (.cells #[v, u] 109)) (h2 : w.ownsRow 0 2 1 v xs.length (cellsNum xs)) (h3 : Mk w u (xs.map Option.isNone)) (ch : Ch (fun i => i = g ∨ u.ownBlock = some i) w w1) : w1.ownsRow 0 2 1 v xs.length (cellsNum xs) :=
  row_keep h2 fun i hi => ch.block i (row_lt h2 hi) (by
    rintro (rfl | q)
    · exact row_not h2 h1 (by decide) hi
    · exact rows_apart h2 h3 (by decide) hi q)
/-- Behind the marks and the append: the column with a cell more. -/
theorem shutNum {w w1 w3 : World} {g : Nat} {xs : List (Option Int)} {F : Nat → Prop} {p p' : Option Addr} {cap cap' : Nat} {u u' : Value} {x : Option Int}
    (h1 : w.heap[g]? = some (.cells #[.slice p xs.length cap, u] 109)) (h4 : ∀ i, F i ↔ i = g ∨ (Value.slice p xs.length cap).ownBlock = some i ∨ u.ownBlock = some i)
    (m1 : Mk w1 u' (xs.map Option.isNone ++ [x.isNone])) (ch1 : Ch (fun i => i = g ∨ u.ownBlock = some i) w w1) (ft1 : ∀ i, u'.ownBlock = some i → u.ownBlock = some i ∨ w.heap.size ≤ i)
    (k1 : w1.heap[g]? = some (.cells #[.slice p xs.length cap, u'] 109)) (r1 : w1.ownsRow 0 2 1 (.slice p xs.length cap) xs.length (cellsNum xs)) {z : World} (hz : Below w1.heap.size w1 z)
    (hr : w3.ownsRow 0 2 1 (.slice p' (xs.length + 1) cap') (xs.length + 1) (cellsNum xs ++ cellsNum [x])) (hg3 : z.grownBy w3 (Value.slice p xs.length cap).ownBlock)
    (hat : ∀ i, (Value.slice p' (xs.length + 1) cap').ownBlock = some i → (Value.slice p xs.length cap).ownBlock = some i ∨ z.heap.size ≤ i) (m : Nat) :
    ∃ F', ColNum ((w3.setCell ⟨g, 0, none⟩ (.slice p' (xs.length + 1) cap')).drewN m) g (xs ++ [x]) F' ∧ Turn F F' w ((w3.setCell ⟨g, 0, none⟩ (.slice p' (xs.length + 1) cap')).drewN m) := by
  have kz := (hz.block g (lt_of_heap k1)).trans k1
  have k3 := (hg3.block g (lt_of_heap kz) (fun q => row_not r1 k1 (by decide) q.symm)).trans kz
  have hvg : (Value.slice p' (xs.length + 1) cap').ownBlock ≠ some g := row_not hr k3 (by decide)
  have zl := hz.size
  have cl := ch1.size
  have ul : ∀ i, u'.ownBlock = some i → i < w1.heap.size := fun i hi => row_lt m1 hi
  have um : Mk w3 u' (xs.map Option.isNone ++ [x.isNone]) := row_keep m1 fun i hi => (hg3.block i (by have := ul i hi; omega) (fun q => rows_apart r1 m1 (by decide) q.symm hi)).trans (hz.block i (ul i hi))
  have hug : u'.ownBlock ≠ some g := row_not m1 k1 (by decide)
  have hF : ∀ i, i < w.heap.size → (Value.slice p xs.length cap).ownBlock = some i → F i := fun i _ q => (h4 i).2 (.inr (.inl q))
  have ch3 : Ch F w w3 := ((ch1.mono (G := F) fun i _ q => (h4 i).2 (q.imp id .inr)).trans (Ch.of_below (F := F) hz) (fun _ _ g => g)).trans (Ch.of_grown hg3) hF
  refine ⟨fun i => i = g ∨ (Value.slice p' (xs.length + 1) cap').ownBlock = some i ∨ u'.ownBlock = some i, ⟨_, _, heap_set k3 0 _, ?_, ?_, fun i => Iff.rfl⟩, (ch3.setCell (a := ⟨g, 0, none⟩) (.inl ((h4 g).2 (.inl rfl))) _).drewN m, ?_⟩
  · rw [List.length_append, cellsNum_snoc]
    exact row_keep hr fun i q => Below.heap_setCell _ _ _ _ (fun e => hvg (by rw [q]; exact congrArg some e))
  · rw [List.map_append]
    exact row_keep um fun i q => Below.heap_setCell _ _ _ _ (fun e => hug (by rw [q]; exact congrArg some e))
  · rintro i (rfl | q | q)
    · exact .inl ((h4 i).2 (.inl rfl))
    · rcases hat i q with e | e
      · exact .inl ((h4 i).2 (.inr (.inl e)))
      · exact .inr (by omega)
    · rcases ft1 i q with e | e
      · exact .inl ((h4 i).2 (.inr (.inr e)))
      · exact .inr e
theorem foot_of {v v' : Value} {z : World} (h : v'.ownBlock = v.ownBlock ∨ v'.ownBlock = some z.heap.size) : ∀ i, v'.ownBlock = some i → v.ownBlock = some i ∨ z.heap.size ≤ i := fun i q => by
  rcases h with e | e
  · exact .inl (e.symm.trans q)
  · rw [q] at e; cases e; exact .inr (Nat.le_refl _)
set_option maxRecDepth 20000 in
set_option maxHeartbeats 3200000 in
theorem putNullNum (w : World) (g : Nat) (xs : List (Option Int)) (F : Nat → Prop) (h : ColNum w g xs F) (hn : xs.length < 17592186044416) :
    Calls Tryd.prog 24 #[.pointer (some ⟨g, 0, none⟩)] w fun e w' => e = .returned (.tuple #[]) ∧ ∃ F', ColNum w' g (xs ++ [none]) F' ∧ Turn F F' w w' := by
  obtain ⟨i0, hi, hz0, hz1, hz2⟩ := info_parts info2b
  obtain ⟨v, u, h1, h2, h3, h4⟩ := h
  obtain ⟨p, cap, rfl⟩ := row_slice h2
  have c0 : w.cell? ⟨g, 0, none⟩ = some (.slice p xs.length cap) := cell_of h1 0 rfl
  have hl : (xs.map Option.isNone).length = xs.length := by simp
  have HL := Lib.hid hl
  clear hl
  go_enter Tryd.func24, Tryd.ntmps24
  go_wp2_with fail
  go_region_with (go_at_call 59; refine (putAtN w.drew g 109 _ u _ true _ HL.out h1 h3 (by decide) (by omega)).mono ?_; rintro e w1 ⟨rfl, u', k1, m1, ch1, ft1⟩)
  replace ch1 : Ch (fun i => i = g ∨ u.ownBlock = some i) w w1 := ⟨ch1.os, ch1.tape, ch1.output, ch1.size, ch1.block⟩
  replace ft1 : ∀ i, u'.ownBlock = some i → u.ownBlock = some i ∨ w.heap.size ≤ i := ft1
  have r1 := partsNum (u' := u') h1 h2 h3 ch1
  have q1 : w1.cell? ⟨g, 0, none⟩ = some (.slice p xs.length cap) := cell_of k1 0 rfl
  have q2 : w1.frozen? ⟨g, 0, none⟩ = false := free_of k1 0
  clear c0
  go_wp2_with (at_builtin; refine Hid.out ?_)
  refine Lib.hid ?_
  refine wpList_append_own_at _ rfl _ _ 104 rfl 0 2 i0 (.int .i64 0) 1 8 Tryd.underlying104 hi hz0 hz1 hz2 rfl (by decide) _ _ _ rfl (r1.alloc _) ⟨w1.heap.size, 0, none⟩ 1 1 [.int .i64 0] rfl rfl (cell_one_new _ _ _) ?_ ?_ ?_ ?_ ?_
  all_goals (try (first | (intro u hu; simp at hu; subst hu; rfl) | (intro u hu; simp at hu; rcases hu with rfl | rfl <;> rfl) | (unfold maxLen; omega) | omega | (simp; done)))
  intro v' w3 hr hg3 _ hat
  obtain ⟨p', cap', rfl⟩ := row_slice hr
  have k3 := (hg3.block g (by simp; have := lt_of_heap k1; omega) (fun q => row_not r1 k1 (by decide) q.symm)).trans (heap_old _ k1)
  have q3 : w3.cell? ⟨g, 0, none⟩ = some (.slice p xs.length cap) := cell_of k3 0 rfl
  have q4 : w3.frozen? ⟨g, 0, none⟩ = false := free_of k3 0
  have hfin := shutNum (x := none) h1 h4 m1 ch1 ft1 k1 r1 (below1 w1 (.cells #[.int .i64 0] 2)) hr hg3 (foot_of hat) 0
  clear q1 q2 h1 h2 h3 h4 hr hg3 hat k3 k1 r1 m1 ch1 ft1
  go_wp2_with fail
  go_end0
  exact ⟨rfl, hfin⟩
set_option maxRecDepth 20000 in
set_option maxHeartbeats 3200000 in
theorem putNum (w : World) (g : Nat) (xs : List (Option Int)) (F : Nat → Prop) (h : ColNum w g xs F) (hn : xs.length < 17592186044416) (n : Int) :
    Calls Tryd.prog 25 #[.pointer (some ⟨g, 0, none⟩), (.int .i64 n)] w fun e w' => e = .returned (.tuple #[]) ∧ ∃ F', ColNum w' g (xs ++ [some n]) F' ∧ Turn F F' w w' := by
  obtain ⟨i0, hi, hz0, hz1, hz2⟩ := info_parts info2b
  obtain ⟨v, u, h1, h2, h3, h4⟩ := h
  obtain ⟨p, cap, rfl⟩ := row_slice h2
  have c0 : w.cell? ⟨g, 0, none⟩ = some (.slice p xs.length cap) := cell_of h1 0 rfl
  have hl : (xs.map Option.isNone).length = xs.length := by simp
  have HL := Lib.hid hl
  clear hl
  go_enter Tryd.func25, Tryd.ntmps25
  go_wp2_with fail
  go_region_with (go_at_call 59; refine (putAtN w.drew g 109 _ u _ false _ HL.out h1 h3 (by decide) (by omega)).mono ?_; rintro e w1 ⟨rfl, u', k1, m1, ch1, ft1⟩)
  replace ch1 : Ch (fun i => i = g ∨ u.ownBlock = some i) w w1 := ⟨ch1.os, ch1.tape, ch1.output, ch1.size, ch1.block⟩
  replace ft1 : ∀ i, u'.ownBlock = some i → u.ownBlock = some i ∨ w.heap.size ≤ i := ft1
  have r1 := partsNum (u' := u') h1 h2 h3 ch1
  have q1 : w1.cell? ⟨g, 0, none⟩ = some (.slice p xs.length cap) := cell_of k1 0 rfl
  have q2 : w1.frozen? ⟨g, 0, none⟩ = false := free_of k1 0
  clear c0
  go_wp2_with fail
  go_region_law (first
    | (refine step_append_lies _ (by rfl) _ _ _ (by rfl) 0 2 i0 _ 1 8 Tryd.underlying104 hi hz0 hz1 hz2 rfl (by omega) (.slice p xs.length cap) xs.length (cellsNum xs) (by rfl) (r5.alloc _)
        ⟨w5.heap.size, 0, none⟩ 1 1 [.int .i64 n] (by rfl) (by rfl) (World.news_of_block (cs := #[.int .i64 n]) (t := 2) (fr := (0, 0)) (by exact heap_new _ _ rfl)) (by simp [Value.oneCell'])
        (by omega) (by unfold maxLen; omega) (by omega) (Nat.zero_le _) (w5.heap.size + 1) (by simp) ?_; intro gg cap' w3 hr hg3 hat hlt
       have k3 := (hg3.block g (by simp; have := lt_of_heap k5; omega) (fun q => row_not r5 k5 (by decide) q.symm)).trans (heap_old _ k5)
       have q3 : w3.cell? ⟨g, 0, none⟩ = some (.slice p xs.length cap) := cell_of k3 0 rfl
       have q4 : w3.frozen? ⟨g, 0, none⟩ = false := free_of k3 0)
    | (go_simp; go_at_call 60; refine (ownNum n w1.drew).mono ?_; rintro e w5 ⟨rfl, hb5⟩
       replace hb5 : Below w1.heap.size w1 w5 := ⟨hb5.os, hb5.tape, hb5.output, hb5.size, hb5.block⟩
       have k5 : w5.heap[g]? = some (.cells #[.slice p xs.length cap, u'] 109) := (hb5.block g (lt_of_heap k1)).trans k1
       have r5 : w5.ownsRow 0 2 1 (.slice p xs.length cap) xs.length (cellsNum xs) := row_keep r1 fun i hi => hb5.block i (row_lt r1 hi)
       have q5 : w5.cell? ⟨g, 0, none⟩ = some (.slice p xs.length cap) := cell_of k5 0 rfl
       have q6 : (w5.alloc (.cells #[.int .i64 n] 2)).cell? ⟨g, 0, none⟩ = some (.slice p xs.length cap) := cell_of (heap_old _ k5) 0 rfl))
  all_goals
    have hfin := shutNum (x := some n) h1 h4 m1 ch1 ft1 k1 r1 (hb5.alloc hb5.size (.cells #[.int .i64 n] 2)) hr hg3 (foot_of (hat.imp (fun e => e.symm) (fun e => by rw [e]; simp [Value.ownBlock]))) 0
    clear q1 q2 h1 h2 h3 h4 hr hg3 hat k3 k1 r1 m1 ch1 ft1
    go_end0
    exact ⟨rfl, hfin⟩
end Go.Proofs.YtffbcccbhofbpaaDoor
