/- A column of pairs: one cell more. -/
import Derived.Test.YtffbcccbhofbpaaDoorC5
import Derived.Deep.RegionWith
import Derived.Deep.RegionLaw
import Derived.Deep.AppendLies
namespace Go.Proofs.YtffbcccbhofbpaaDoor
open Go.RowKit

theorem info68b : (Tryd.prog.info? 68).map (fun i => (i.zero, i.size, i.bytes)) = some (some (.agg #[.int .i64 0, .string ⟨#[]⟩]), 2, 24) := by kernel_rfl
/-- The cells of a column of pairs. -/
def cellsPair (xs : List (Option (Int × ByteArray))) : List Value := xs.flatMap fun x => match x with | none => (.agg #[.int .i64 0, .string ⟨#[]⟩] : Value).cells.toList | some n => [.int .i64 n.1, .string n.2]
theorem cellsPair_snoc (xs : List (Option (Int × ByteArray))) (x : Option (Int × ByteArray)) : cellsPair (xs ++ [x]) = cellsPair xs ++ cellsPair [x] := by simp [cellsPair]
/-- A column of pairs lies at block g; its blocks are F. -/
def ColPair (w : World) (g : Nat) (xs : List (Option (Int × ByteArray))) (F : Nat → Prop) : Prop :=
  ∃ v u, w.heap[g]? = some (.cells #[v, u] 117) ∧ w.ownsRow 0 68 2 v xs.length (cellsPair xs) ∧ Mk w u (xs.map Option.isNone) ∧ ∀ i, F i ↔ i = g ∨ v.ownBlock = some i ∨ u.ownBlock = some i
theorem ColPair.lt {w : World} {g : Nat} {xs : List (Option (Int × ByteArray))} {F : Nat → Prop} (h : ColPair w g xs F) {i : Nat} (hi : F i) : i < w.heap.size := by
  obtain ⟨v, u, h1, h2, h3, h4⟩ := h
  rcases (h4 i).1 hi with rfl | e | e
  · exact lt_of_heap h1
  · exact row_lt h2 e
  · exact row_lt h3 e
theorem ColPair.keep {w w' : World} {g : Nat} {xs : List (Option (Int × ByteArray))} {F : Nat → Prop} (h : ColPair w g xs F) (k : ∀ i, F i → w'.heap[i]? = w.heap[i]?) : ColPair w' g xs F := by
  obtain ⟨v, u, h1, h2, h3, h4⟩ := h
  exact ⟨v, u, (k g ((h4 g).2 (.inl rfl))).trans h1, row_keep h2 fun i hi => k i ((h4 i).2 (.inr (.inl hi))), row_keep h3 fun i hi => k i ((h4 i).2 (.inr (.inr hi))), h4⟩
theorem ColPair.below {w w' : World} {g : Nat} {xs : List (Option (Int × ByteArray))} {F : Nat → Prop} (h : ColPair w g xs F) (k : Below w.heap.size w w') : ColPair w' g xs F := h.keep fun i hi => k.block i (h.lt hi)
theorem ColPair.ch {w w' : World} {g : Nat} {xs : List (Option (Int × ByteArray))} {F G : Nat → Prop} (h : ColPair w g xs F) (k : Ch G w w') (d : ∀ i, F i → ¬ G i) : ColPair w' g xs F := h.keep fun i hi => k.block i (h.lt hi) (d i hi)
theorem info68 : (Tryd.prog.info? 68).map (·.size) = some 2 := by kernel_rfl
set_option maxRecDepth 20000 in
set_option maxHeartbeats 3200000 in
theorem ownPair (n : Int × ByteArray) (w : World) : Calls Tryd.prog 65 #[.agg #[.int .i64 n.1, .string n.2]] w fun e w' => e = .returned (.agg #[.int .i64 n.1, .string n.2]) ∧ Below w.heap.size w w' := by
  have t1 : ∀ (p : Option Addr) w, (Instr.typeAssert (.iface 136 (.pointer p)) 20 130 true).run Tryd.prog w = .ok (.tuple #[.pointer none, .bool false]) w := fun _ _ => by kernel_rfl
  have t2 : ∀ (p : Option Addr) w, (Instr.typeAssert (.iface 136 (.pointer p)) 20 131 true).run Tryd.prog w = .ok (.tuple #[.pointer none, .bool false]) w := fun _ _ => by kernel_rfl
  have t3 : ∀ (p : Option Addr) w, (Instr.typeAssert (.iface 136 (.pointer p)) 20 133 true).run Tryd.prog w = .ok (.tuple #[.pointer none, .bool false]) w := fun _ _ => by kernel_rfl
  obtain ⟨a, b⟩ := n
  go_enter Tryd.func65, Tryd.ntmps65
  go_wp2_with (simp only [t1, t2, t3, Result.andThen_ok])
  exact bodyPost_ret (v := .agg #[.int .i64 a, .string b]) (results_cell_row (p := 2) (ty := 68) Tryd.results65 _ _ (w.heap.size + 1) 68 #[.int .i64 a, .string b] (0, 0) _ rfl (heap_new _ _ (by simp)) Tryd.underlying68 rfl info68) rfl ⟨rfl, below2 _ _ _⟩
theorem turn_first {F F' : Nat → Prop} {w W0 w' : World} (b : Below w.heap.size w W0) (t : Turn F F' W0 w') : Turn F F' w w' :=
  ⟨(Ch.of_below (F := F) b).trans t.ch (fun _ _ f => f), fun i f => (t.foot i f).imp id (fun h => Nat.le_trans b.size h)⟩
theorem cell_two_new (w : World) (x y : Value) (t : TypeId) : ∀ j u, [x, y][j]? = some u → (w.alloc (.cells #[x, y] t)).cell? ((⟨w.heap.size, 0, none⟩ : Addr).add j) = some u := World.news_of_block (cs := #[x, y]) (t := t) (fr := (0, 0)) (heap_new _ _ rfl)
theorem partsPair {w w1 : World} {g : Nat} {xs : List (Option (Int × ByteArray))} {v u u' : Value} (h1 : w.heap[g]? = some (.cells #[v, u] 117)) (h2 : w.ownsRow 0 68 2 v xs.length (cellsPair xs)) (h3 : Mk w u (xs.map Option.isNone)) (ch : Ch (fun i => i = g ∨ u.ownBlock = some i) w w1) : w1.ownsRow 0 68 2 v xs.length (cellsPair xs) :=
  row_keep h2 fun i hi => ch.block i (row_lt h2 hi) (by
    rintro (rfl | q)
    · exact row_not h2 h1 (by decide) hi
    · exact rows_apart h2 h3 (by decide) hi q)
/-- Behind the marks and the append: the column with a cell more. -/
theorem shutPair {w w1 w3 : World} {g : Nat} {xs : List (Option (Int × ByteArray))} {F : Nat → Prop} {p p' : Option Addr} {cap cap' : Nat} {u u' : Value} {x : Option (Int × ByteArray)}
    (h1 : w.heap[g]? = some (.cells #[.slice p xs.length cap, u] 117)) (h4 : ∀ i, F i ↔ i = g ∨ (Value.slice p xs.length cap).ownBlock = some i ∨ u.ownBlock = some i)
    (m1 : Mk w1 u' (xs.map Option.isNone ++ [x.isNone])) (ch1 : Ch (fun i => i = g ∨ u.ownBlock = some i) w w1) (ft1 : ∀ i, u'.ownBlock = some i → u.ownBlock = some i ∨ w.heap.size ≤ i)
    (k1 : w1.heap[g]? = some (.cells #[.slice p xs.length cap, u'] 117)) (r1 : w1.ownsRow 0 68 2 (.slice p xs.length cap) xs.length (cellsPair xs)) {z : World} (hz : Below w1.heap.size w1 z)
    (hr : w3.ownsRow 0 68 2 (.slice p' (xs.length + 1) cap') (xs.length + 1) (cellsPair xs ++ cellsPair [x])) (hg3 : z.grownBy w3 (Value.slice p xs.length cap).ownBlock)
    (hat : ∀ i, (Value.slice p' (xs.length + 1) cap').ownBlock = some i → (Value.slice p xs.length cap).ownBlock = some i ∨ z.heap.size ≤ i) (m : Nat) :
    ∃ F', ColPair ((w3.setCell ⟨g, 0, none⟩ (.slice p' (xs.length + 1) cap')).drewN m) g (xs ++ [x]) F' ∧ Turn F F' w ((w3.setCell ⟨g, 0, none⟩ (.slice p' (xs.length + 1) cap')).drewN m) := by
  have kz := (hz.block g (lt_of_heap k1)).trans k1
  have k3 := (hg3.block g (lt_of_heap kz) (fun q => row_not r1 k1 (by decide) q.symm)).trans kz
  have hvg : (Value.slice p' (xs.length + 1) cap').ownBlock ≠ some g := row_not hr k3 (by decide)
  have zl := hz.size
  have cl := ch1.size
  have ul : ∀ i, u'.ownBlock = some i → i < w1.heap.size := fun i hi => row_lt m1 hi
  have um : Mk w3 u' (xs.map Option.isNone ++ [x.isNone]) := row_keep m1 fun i hi => (hg3.block i (by have := ul i hi; omega) (fun q => rows_apart r1 m1 (by decide) q.symm hi)).trans (hz.block i (ul i hi))
  have hug : u'.ownBlock ≠ some g := row_not m1 k1 (by decide)
  have hF : ∀ i, i < w.heap.size → (Value.slice p xs.length cap).ownBlock = some i → F i := fun i _ q => (h4 i).2 (.inr (.inl q))
  have ch3 : Ch F w w3 := ((ch1.mono (G := F) fun i _ q => (h4 i).2 (q.imp id .inr)).trans (Ch.of_below (F := F) hz) (fun _ _ g => g)).trans (Ch.of_grown hg3) hF
  refine ⟨fun i => i = g ∨ (Value.slice p' (xs.length + 1) cap').ownBlock = some i ∨ u'.ownBlock = some i, ⟨_, _, heap_set k3 0 _, ?_, ?_, fun i => Iff.rfl⟩, (ch3.setCell (a := ⟨g, 0, none⟩) (.inl ((h4 g).2 (.inl rfl))) _).drewN m, ?_⟩
  · rw [List.length_append, cellsPair_snoc]
    exact row_keep hr fun i q => Below.heap_setCell _ _ _ _ (fun e => hvg (by rw [q]; exact congrArg some e))
  · rw [List.map_append]
    exact row_keep um fun i q => Below.heap_setCell _ _ _ _ (fun e => hug (by rw [q]; exact congrArg some e))
  · rintro i (rfl | q | q)
    · exact .inl ((h4 i).2 (.inl rfl))
    · rcases hat i q with e | e
      · exact .inl ((h4 i).2 (.inr (.inl e)))
      · exact .inr (by omega)
    · rcases ft1 i q with e | e
      · exact .inl ((h4 i).2 (.inr (.inr e)))
      · exact .inr e
set_option maxRecDepth 20000 in
set_option maxHeartbeats 3200000 in
theorem putNullPair (w : World) (g : Nat) (xs : List (Option (Int × ByteArray))) (F : Nat → Prop) (h : ColPair w g xs F) (hn : xs.length < 17592186044416 / 4) :
    Calls Tryd.prog 34 #[.pointer (some ⟨g, 0, none⟩)] w fun e w' => e = .returned (.tuple #[]) ∧ ∃ F', ColPair w' g (xs ++ [none]) F' ∧ Turn F F' w w' := by
  obtain ⟨i0, hi, hz0, hz1, hz2⟩ := info_parts info68b
  obtain ⟨v, u, h1, h2, h3, h4⟩ := h
  obtain ⟨p, cap, rfl⟩ := row_slice h2
  obtain ⟨W0, hW0⟩ : ∃ W0, W0 = w.alloc (.cells #[.int .i64 0, .string ⟨#[]⟩] 68) := ⟨_, rfl⟩
  have hb0 : Below w.heap.size w W0 := by rw [hW0]; exact below1 _ _
  have hx : W0.heap[w.heap.size]? = some (.cells #[.int .i64 0, .string ⟨#[]⟩] 68) := by rw [hW0]; exact heap_new _ _ rfl
  have ul : ∀ i, u.ownBlock = some i → i < w.heap.size := fun i q => row_lt h3 q
  have gl := lt_of_heap h1
  replace h3 : Mk W0 u (xs.map Option.isNone) := row_keep h3 fun i q => hb0.block i (row_lt h3 q)
  replace h2 : W0.ownsRow 0 68 2 (.slice p xs.length cap) xs.length (cellsPair xs) := row_keep h2 fun i q => hb0.block i (row_lt h2 q)
  replace h1 : W0.heap[g]? = some (.cells #[.slice p xs.length cap, u] 117) := (hb0.block g (lt_of_heap h1)).trans h1
  have c0 : W0.cell? ⟨g, 0, none⟩ = some (.slice p xs.length cap) := cell_of h1 0 rfl
  have H0 := Lib.hid hW0
  clear hW0
  have hl : (xs.map Option.isNone).length = xs.length := by simp
  have HL := Lib.hid hl
  clear hl
  go_enter Tryd.func34, Tryd.ntmps34
  go_wp2_with fail
  rw [← H0.out]
  go_region_with (go_at_call 59; refine (putAtN W0.drew g 117 _ u _ true _ HL.out h1 h3 (by decide) (by omega)).mono ?_; rintro e w1 ⟨rfl, u', k1, m1, ch1, ft1⟩)
  replace ch1 : Ch (fun i => i = g ∨ u.ownBlock = some i) W0 w1 := ⟨ch1.os, ch1.tape, ch1.output, ch1.size, ch1.block⟩
  replace ft1 : ∀ i, u'.ownBlock = some i → u.ownBlock = some i ∨ W0.heap.size ≤ i := ft1
  have r1 := partsPair (u' := u') h1 h2 h3 ch1
  have q1 : w1.cell? ⟨g, 0, none⟩ = some (.slice p xs.length cap) := cell_of k1 0 rfl
  have q2 : w1.frozen? ⟨g, 0, none⟩ = false := free_of k1 0
  have kx : w1.heap[w.heap.size]? = some (.cells #[.int .i64 0, .string ⟨#[]⟩] 68) := (ch1.block _ (lt_of_heap hx) (by rintro (q | q) <;> first | omega | (have := ul _ q; omega))).trans hx
  have x0 : w1.cell? ⟨w.heap.size, 0, none⟩ = some (.int .i64 0) := cell_of kx 0 rfl
  have x1 : w1.cell? ⟨w.heap.size, 1, none⟩ = some (.string ⟨#[]⟩) := cell_of kx 1 rfl
  clear c0
  go_wp2_with fail
  have q6 : (w1.alloc (.cells #[.int .i64 0, .string ⟨#[]⟩] 68)).cell? ⟨g, 0, none⟩ = some (.slice p xs.length cap) := cell_of (heap_old _ k1) 0 rfl
  go_region_law (first
    | (refine step_append_lies _ (by rfl) _ _ _ (by rfl) 0 68 i0 _ 2 24 Tryd.underlying115 hi hz0 hz1 hz2 rfl (by omega) (.slice p xs.length cap) xs.length (cellsPair xs) (by rfl) ((r1.alloc _).drew)
        ⟨w1.heap.size, 0, none⟩ 1 1 [.int .i64 0, .string ⟨#[]⟩] (by rfl) (by rfl) (World.news_of_block (cs := #[.int .i64 0, .string ⟨#[]⟩]) (t := 68) (fr := (0, 0)) (by exact heap_new w1 _ rfl)) (by simp [Value.oneCell'])
        (by omega) (by unfold maxLen; omega) (by omega) (Nat.zero_le _) (w1.heap.size + 1) (by simp) ?_; intro gg cap' w3 hr hg3 hat hlt
       have k3 := (hg3.block g (by simp; have := lt_of_heap k1; omega) (fun q => row_not r1 k1 (by decide) q.symm)).trans (heap_old _ k1)
       have q3 : w3.cell? ⟨g, 0, none⟩ = some (.slice p xs.length cap) := cell_of k3 0 rfl
       have q4 : w3.frozen? ⟨g, 0, none⟩ = false := free_of k3 0))
  all_goals
    have hfin := shutPair (x := none) h1 h4 m1 ch1 ft1 k1 r1 (below_drewN (below1 w1 (.cells #[.int .i64 0, .string ⟨#[]⟩] 68)) 1) hr hg3 (foot_of (hat.imp (fun e => e.symm) (fun e => by rw [e]; simp [Value.ownBlock]))) 0
    clear q1 q2 h1 h2 h3 h4 hr hg3 hat k3 k1 r1 m1 ch1 ft1
    go_end0
    obtain ⟨F5, c5, t5⟩ := hfin
    exact ⟨rfl, F5, c5, turn_first hb0 t5⟩
set_option maxRecDepth 20000 in
set_option maxHeartbeats 3200000 in
theorem putPair (w : World) (g : Nat) (xs : List (Option (Int × ByteArray))) (F : Nat → Prop) (h : ColPair w g xs F) (hn : xs.length < 17592186044416 / 4) (n : (Int × ByteArray)) :
    Calls Tryd.prog 36 #[.pointer (some ⟨g, 0, none⟩), (.agg #[.int .i64 n.1, .string n.2])] w fun e w' => e = .returned (.tuple #[]) ∧ ∃ F', ColPair w' g (xs ++ [some n]) F' ∧ Turn F F' w w' := by
  obtain ⟨i0, hi, hz0, hz1, hz2⟩ := info_parts info68b
  obtain ⟨v, u, h1, h2, h3, h4⟩ := h
  obtain ⟨p, cap, rfl⟩ := row_slice h2
  obtain ⟨W0, hW0⟩ : ∃ W0, W0 = w.alloc (.cells #[.int .i64 n.1, .string n.2] 68) := ⟨_, rfl⟩
  have hb0 : Below w.heap.size w W0 := by rw [hW0]; exact below1 _ _
  have hx : W0.heap[w.heap.size]? = some (.cells #[.int .i64 n.1, .string n.2] 68) := by rw [hW0]; exact heap_new _ _ rfl
  have ul : ∀ i, u.ownBlock = some i → i < w.heap.size := fun i q => row_lt h3 q
  have gl := lt_of_heap h1
  replace h3 : Mk W0 u (xs.map Option.isNone) := row_keep h3 fun i q => hb0.block i (row_lt h3 q)
  replace h2 : W0.ownsRow 0 68 2 (.slice p xs.length cap) xs.length (cellsPair xs) := row_keep h2 fun i q => hb0.block i (row_lt h2 q)
  replace h1 : W0.heap[g]? = some (.cells #[.slice p xs.length cap, u] 117) := (hb0.block g (lt_of_heap h1)).trans h1
  have c0 : W0.cell? ⟨g, 0, none⟩ = some (.slice p xs.length cap) := cell_of h1 0 rfl
  have H0 := Lib.hid hW0
  clear hW0
  have hl : (xs.map Option.isNone).length = xs.length := by simp
  have HL := Lib.hid hl
  clear hl
  go_enter Tryd.func36, Tryd.ntmps36
  go_wp2_with fail
  rw [← H0.out]
  go_region_with (go_at_call 59; refine (putAtN W0.drew g 117 _ u _ false _ HL.out h1 h3 (by decide) (by omega)).mono ?_; rintro e w1 ⟨rfl, u', k1, m1, ch1, ft1⟩)
  replace ch1 : Ch (fun i => i = g ∨ u.ownBlock = some i) W0 w1 := ⟨ch1.os, ch1.tape, ch1.output, ch1.size, ch1.block⟩
  replace ft1 : ∀ i, u'.ownBlock = some i → u.ownBlock = some i ∨ W0.heap.size ≤ i := ft1
  have r1 := partsPair (u' := u') h1 h2 h3 ch1
  have q1 : w1.cell? ⟨g, 0, none⟩ = some (.slice p xs.length cap) := cell_of k1 0 rfl
  have q2 : w1.frozen? ⟨g, 0, none⟩ = false := free_of k1 0
  have kx : w1.heap[w.heap.size]? = some (.cells #[.int .i64 n.1, .string n.2] 68) := (ch1.block _ (lt_of_heap hx) (by rintro (q | q) <;> first | omega | (have := ul _ q; omega))).trans hx
  have x0 : w1.cell? ⟨w.heap.size, 0, none⟩ = some (.int .i64 n.1) := cell_of kx 0 rfl
  have x1 : w1.cell? ⟨w.heap.size, 1, none⟩ = some (.string n.2) := cell_of kx 1 rfl
  clear c0
  go_wp2_with fail
  go_region_law (first
    | (refine step_append_lies _ (by rfl) _ _ _ (by rfl) 0 68 i0 _ 2 24 Tryd.underlying115 hi hz0 hz1 hz2 rfl (by omega) (.slice p xs.length cap) xs.length (cellsPair xs) (by rfl) (r5.alloc _)
        ⟨w5.heap.size, 0, none⟩ 1 1 [.int .i64 n.1, .string n.2] (by rfl) (by rfl) (World.news_of_block (cs := #[.int .i64 n.1, .string n.2]) (t := 68) (fr := (0, 0)) (by exact heap_new _ _ rfl)) (by simp [Value.oneCell'])
        (by omega) (by unfold maxLen; omega) (by omega) (Nat.zero_le _) (w5.heap.size + 1) (by simp) ?_; intro gg cap' w3 hr hg3 hat hlt
       have k3 := (hg3.block g (by simp; have := lt_of_heap k5; omega) (fun q => row_not r5 k5 (by decide) q.symm)).trans (heap_old _ k5)
       have q3 : w3.cell? ⟨g, 0, none⟩ = some (.slice p xs.length cap) := cell_of k3 0 rfl
       have q4 : w3.frozen? ⟨g, 0, none⟩ = false := free_of k3 0)
    | (go_simp; go_at_call 65; refine (ownPair n w1.drew).mono ?_; rintro e w5 ⟨rfl, hb5⟩
       replace hb5 : Below w1.heap.size w1 w5 := ⟨hb5.os, hb5.tape, hb5.output, hb5.size, hb5.block⟩
       have k5 : w5.heap[g]? = some (.cells #[.slice p xs.length cap, u'] 117) := (hb5.block g (lt_of_heap k1)).trans k1
       have r5 : w5.ownsRow 0 68 2 (.slice p xs.length cap) xs.length (cellsPair xs) := row_keep r1 fun i hi => hb5.block i (row_lt r1 hi)
       have q5 : w5.cell? ⟨g, 0, none⟩ = some (.slice p xs.length cap) := cell_of k5 0 rfl
       have q6 : (w5.alloc (.cells #[.int .i64 n.1, .string n.2] 68)).cell? ⟨g, 0, none⟩ = some (.slice p xs.length cap) := cell_of (heap_old _ k5) 0 rfl))
  all_goals
    have hfin := shutPair (x := some n) h1 h4 m1 ch1 ft1 k1 r1 (hb5.alloc hb5.size (.cells #[.int .i64 n.1, .string n.2] 68)) hr hg3 (foot_of (hat.imp (fun e => e.symm) (fun e => by rw [e]; simp [Value.ownBlock]))) 0
    clear q1 q2 h1 h2 h3 h4 hr hg3 hat k3 k1 r1 m1 ch1 ft1
    go_end0
    obtain ⟨F5, c5, t5⟩ := hfin
    exact ⟨rfl, F5, c5, turn_first hb0 t5⟩
end Go.Proofs.YtffbcccbhofbpaaDoor
