/- Texts of one kind, one behind the other: each says ahead of itself what it shows. -/
import Derived.Test.YtanbgdhmfjgihaaGreatDoorLbd
/- Match: a round of its loop. -/
namespace Go.Proofs
open Go.Shelf
namespace YtanbgdhmfjgihaaGreatDoor
open Go.RowKit
attribute [local go_sem] Oper.semAt_some

set_option maxHeartbeats 12800000 in
set_option maxRecDepth 20000 in
theorem matBody (sp : Nat) (s : SM) (pv pr : Option Addr) (cv cr : Nat) (pp : Nat → Option Addr) (cc : Nat → Nat) (w : World) (h0 : StoreIs w sp s pv pr cv cr pp cc) (hok : SMok s) (hp : ∀ u ∈ s.vs, Plain u) (v0 v1 v2 : V6) (g2 g5 B1 nb B5 Bx l : Nat) (hbs : w.heap.size ≤ B1) (hnb : nb = B1) (hg2 : g2 < B1) (hg5 : g5 < B1) (hB2 : B5 < g2) (hB6 : B5 < g5) (hB5n : w.heap.size < B5)
    (pre : List (SRow s)) (x : SRow s) (W : World) (hI : MatP w s sp B5 nb pre W) (hBx : nb ≤ Bx) (hbx : W.heap[Bx]? = some (.cells #[.int .i64 (x.1.a : Nat), .int .i64 (x.1.b : Nat), .int .i64 (x.1.c : Nat)] 81)) (hpl : pre.length ≤ 65536) :
    (Code.block 1 (Code.region 4 #[{ dst := some 11, op := Op.load 22 (Operand.tmp 5), type := 22, pos := "triples.go:58", after := #[], guard := none }, { dst := some 12, op := Op.load 29 (Operand.tmp 2), type := 29, pos := "triples.go:58", after := #[], guard := none }, { dst := some 13, op := Op.load 81 (Operand.tmp 6), type := 81, pos := "triples.go:58", after := #[], guard := none }, { dst := some 14, op := Op.call { callee := Callee.value (Operand.func 50), args := #[Operand.tmp 12, Operand.tmp 13], argTypes := #[29, 81] }, type := 41, pos := "triples.go:58", after := #[{ on := 1, ground := Ground.data }, { on := 2, ground := Ground.data }], guard := none }, { dst := some 15, op := Op.buildSlice 22 1 #[(0, Operand.tmp 14)], type := 22, pos := "triples.go:58", after := #[{ on := 3, ground := Ground.data }], guard := none }, { dst := some 16, op := Op.call { callee := Callee.builtin Builtin.append, args := #[Operand.tmp 11, Operand.tmp 15], argTypes := #[22, 22] }, type := 22, pos := "triples.go:58", after := #[{ on := 0, ground := Ground.data }, { on := 4, ground := Ground.data }, { on := 3, ground := Ground.chain }], guard := none }, { dst := none, op := Op.store 22 (Operand.tmp 5) (Operand.tmp 16), type := 0, pos := "triples.go:58", after := #[{ on := 5, ground := Ground.data }, { on := 5, ground := Ground.chain }, { on := 0, ground := Ground.phase }, { on := 1, ground := Ground.phase }, { on := 2, ground := Ground.phase }, { on := 3, ground := Ground.phase }, { on := 4, ground := Ground.phase }, { on := 5, ground := Ground.phase }], guard := none }] true)).wpIn (Fence.wide.inRound l) 2 Tryz.prog (ownPostG B1 (KeepB w.heap.size g2 g5) (MatP w s sp B5 nb) (fun _ _ _ => False) (pre ++ [x]) W) { tmps := #[.pointer (some ⟨sp, 0, none⟩), .agg #[.int .i64 v0.k, .bool v0.b, .int .i64 v0.n, .string v0.t, .string v0.x, .slice v0.p v0.len v0.cap, .int .i64 v1.k, .bool v1.b, .int .i64 v1.n, .string v1.t, .string v1.x, .slice v1.p v1.len v1.cap, .int .i64 v2.k, .bool v2.b, .int .i64 v2.n, .string v2.t, .string v2.x, .slice v2.p v2.len v2.cap], .pointer (some ⟨w.heap.size, 0, none⟩), .pointer (some ⟨w.heap.size + 1, 0, none⟩), .slice none 0 0, .pointer (some ⟨B5, 0, none⟩), .pointer (some ⟨Bx, 0, none⟩), .pointer (some ⟨sp, 0, none⟩), .agg #[.int .i64 v0.k, .bool v0.b, .int .i64 v0.n, .string v0.t, .string v0.x, .slice v0.p v0.len v0.cap, .int .i64 v1.k, .bool v1.b, .int .i64 v1.n, .string v1.t, .string v1.x, .slice v1.p v1.len v1.cap, .int .i64 v2.k, .bool v2.b, .int .i64 v2.n, .string v2.t, .string v2.x, .slice v2.p v2.len v2.cap], .func (.func 88) #[] #[.pointer (some ⟨g2, 0, none⟩), .pointer (some ⟨g5, 0, none⟩)], .agg #[.int .i64 (x.1.a : Nat), .int .i64 (x.1.b : Nat), .int .i64 (x.1.c : Nat)], undef, undef, undef, undef, undef, undef, undef], defers := [] } W := by
  obtain ⟨z0, hi, hz0, hz1, hz2⟩ := info_parts info41b
  have HSI := Lib.hid h0
  have HOK := Lib.hid hok
  have HPL := Lib.hid hp
  clear h0 hok hp
  obtain ⟨⟨⟨v, d, m1, m2, h3v⟩, m4, m5⟩, m6⟩ := hI
  have hrow := HOK.out.r _ x.2
  have hsw := HSI.out
  have hne : s.vs ≠ [] := by intro e; rw [e] at hrow; exact absurd hrow.1 (by simp)
  have hvb := hsw.v.below m6
  obtain ⟨gv, ov, rfl, e0, x0, hx0, hv0, q0, f0, g0⟩ := storeVal hvb HPL.out x.1.a hrow.1
  obtain ⟨gv', ov', ee, e1, x1, hx1, hv1, q1, f1, g1⟩ := storeVal hvb HPL.out x.1.b hrow.2.1
  obtain ⟨rfl, rfl⟩ : gv = gv' ∧ ov = ov' := by injection ee with ee; injection ee with e1 e2 _; exact ⟨e1, e2⟩
  obtain ⟨gv', ov', ee, e2, x2, hx2, hv2, q2, f2, g2'⟩ := storeVal hvb HPL.out x.1.c hrow.2.2
  obtain ⟨rfl, rfl⟩ : gv = gv' ∧ ov = ov' := by injection ee with ee; injection ee with e1 e2 _; exact ⟨e1, e2⟩
  have k0 : W.cell? ⟨sp, 0, none⟩ = some (.slice (some ⟨gv, ov, none⟩) s.vs.length cv) := (m6.cell (p := ⟨sp, 0, none⟩) (World.block_lt_of_cell? w _ (cell_of hsw.h 0 rfl))).trans (cell_of hsw.h 0 rfl)
  have htri : flat [s.tri x.1] = [x0.val, x1.val, x2.val] := by
    unfold SM.tri
    rw [flat_cons, flat_nil, hv0, hv1, hv2]
  have hc : ∀ W', Below W.heap.size W W' → Calls Tryz.prog 50 #[.pointer (some ⟨sp, 0, none⟩), .agg #[.int .i64 (x.1.a : Nat), .int .i64 (x.1.b : Nat), .int .i64 (x.1.c : Nat)]] W' fun e w' => e = .returned (.agg #[.int .i64 e0.k, .bool e0.b, .int .i64 e0.n, .string e0.t, .string e0.x, .slice none 0 0, .int .i64 e1.k, .bool e1.b, .int .i64 e1.n, .string e1.t, .string e1.x, .slice none 0 0, .int .i64 e2.k, .bool e2.b, .int .i64 e2.n, .string e2.t, .string e2.x, .slice none 0 0]) ∧ Below W'.heap.size W' w' := fun W' hb =>
    tripleRaw sp gv ov s.vs.length cv x.1.a x.1.b x.1.c e0 e1 e2 W' hrow.1 hrow.2.1 hrow.2.2 ((hb.cell (p := ⟨sp, 0, none⟩) (World.block_lt_of_cell? W _ k0)).trans k0) (range_below q0 hb) (range_below q1 hb) (range_below q2 hb) ⟨f0, g0⟩ ⟨f1, g1⟩ ⟨f2, g2'⟩
  have HC := Lib.hid hc
  have HT3 := Lib.hid (And.intro htri (And.intro hx0 (And.intro hx1 hx2)))
  clear hc htri hx0 hx1 hx2 hv0 hv1 hv2 q0 q1 q2 hvb hsw k0 ee hrow hne f0 f1 f2 g0 g1 g2'
  gi_upto_region 4 with fail
  refine region_in (by rintro ⟨a, w, h⟩; exact h) (by kernel_rfl) (S := fun W => W.cell? ⟨w.heap.size, 0, none⟩ = some (.pointer (some ⟨sp, 0, none⟩)) ∧ W.heap[Bx]? = some (.cells #[.int .i64 (x.1.a : Nat), .int .i64 (x.1.b : Nat), .int .i64 (x.1.c : Nat)] 81)) (by kernel_rfl) ⟨m4.cell, hbx⟩ (fun hHeld => ?_)
  have L0 : Below W.heap.size W W.drew := (Below.refl _ _).drew
  refine wpAnyH_take (i := 1) (v := .pointer (some ⟨sp, 0, none⟩)) rfl (by kernel_rfl) (by kernel_rfl) (by kernel_rfl) (fun _ _ _ h => h) (Or.inl ⟨by rfl, fun W h => by have c0 := h.1; go_simp⟩) hHeld ?_
  try simp only [putS]
  refine wpAnyH_take (i := 2) rfl (by kernel_rfl) (by kernel_rfl) (by kernel_rfl) (fun _ _ _ h => h) (yieldsIf_load_mid (by rfl) 81 (.tmp 6) rfl Bx 0 rfl [.int .i64 (x.1.a : Nat), .int .i64 (x.1.b : Nat), .int .i64 (x.1.c : Nat)] _ (fun W h => rowRange h.2) Tryz.underlying81 rfl info81) hHeld ?_
  try simp only [putS]
  refine wpAnyH_ready (rs := [0, 3]) (by kernel_rfl) (by simp) ?_
  refine AllReadyH.cons rfl (fun K hK => ?_) (AllReadyH.cons rfl (fun K hK => ?_) AllReadyH.nil)
  · have c0 := (L0.cell (p := ⟨B5, 0, none⟩) m1.lt).trans m1.cell
    go_simp
    refine hK.out _ _ ⟨(L0.cell (p := ⟨w.heap.size, 0, none⟩) m4.lt).trans m4.cell, (L0.block Bx (lt_of_heap hbx)).trans hbx⟩ (fun _ => ?_)
    clear hK K c0
    try simp only [putS]
    refine wpAnyH_ready (rs := [3]) (by kernel_rfl) (by simp) ?_
    refine AllReadyH.cons rfl (fun K hK => ?_) AllReadyH.nil
    rw [if_pos (by rfl)]
    go_simp
    refine (HC.out _ L0).mono ?_
    rintro e9 w3 ⟨rfl, hb3⟩
    have L1 := L0.trans (hb3.mono L0.size)
    clear hb3
    refine hK.out _ _ ⟨(L1.cell (p := ⟨w.heap.size, 0, none⟩) m4.lt).trans m4.cell, (L1.block Bx (lt_of_heap hbx)).trans hbx⟩ (fun _ => ?_)
    clear hK K
    try simp only [putS]
    refine wpAnyH_ready (rs := [4]) (by kernel_rfl) (by simp) ?_
    refine AllReadyH.cons rfl (fun K hK => ?_) AllReadyH.nil
    (try rw [if_pos (by rfl)])
    go_simp
    have own3 := (own_below m2 L1).alloc (.cells #[.int .i64 e0.k, .bool e0.b, .int .i64 e0.n, .string e0.t, .string e0.x, .slice none 0 0, .int .i64 e1.k, .bool e1.b, .int .i64 e1.n, .string e1.t, .string e1.x, .slice none 0 0, .int .i64 e2.k, .bool e2.b, .int .i64 e2.n, .string e2.t, .string e2.x, .slice none 0 0] 41)
    have L2 : Below W.heap.size W (w3.alloc (.cells #[.int .i64 e0.k, .bool e0.b, .int .i64 e0.n, .string e0.t, .string e0.x, .slice none 0 0, .int .i64 e1.k, .bool e1.b, .int .i64 e1.n, .string e1.t, .string e1.x, .slice none 0 0, .int .i64 e2.k, .bool e2.b, .int .i64 e2.n, .string e2.t, .string e2.x, .slice none 0 0] 41)) := L1.trans ((below1 w3 _).mono L1.size)
    refine hK.out _ _ ⟨(L2.cell (p := ⟨w.heap.size, 0, none⟩) m4.lt).trans m4.cell, (L2.block Bx (lt_of_heap hbx)).trans hbx⟩ (fun _ => ?_)
    clear hK K
    try simp only [putS]
    refine wpAnyH_ready (rs := [5]) (by kernel_rfl) (by simp) ?_
    refine AllReadyH.cons rfl (fun K hK => ?_) AllReadyH.nil
    refine step_append_lies _ (by rfl) _ _ _ (by rfl) nb 41 z0 _ 18 240 Tryz.underlying22 hi hz0 hz1 hz2 rfl (by omega) v pre.length (d.flatMap VE.enc) (by rfl) own3 ⟨w3.heap.size, 0, none⟩ 1 1 [.int .i64 e0.k, .bool e0.b, .int .i64 e0.n, .string e0.t, .string e0.x, .slice none 0 0, .int .i64 e1.k, .bool e1.b, .int .i64 e1.n, .string e1.t, .string e1.x, .slice none 0 0, .int .i64 e2.k, .bool e2.b, .int .i64 e2.n, .string e2.t, .string e2.x, .slice none 0 0] (by rfl) (by rfl) (World.news_of_block (cs := #[.int .i64 e0.k, .bool e0.b, .int .i64 e0.n, .string e0.t, .string e0.x, .slice none 0 0, .int .i64 e1.k, .bool e1.b, .int .i64 e1.n, .string e1.t, .string e1.x, .slice none 0 0, .int .i64 e2.k, .bool e2.b, .int .i64 e2.n, .string e2.t, .string e2.x, .slice none 0 0]) (t := 41) (fr := (0, 0)) (by exact heap_alloc_new w3 _)) (by simp [Value.oneCell']) (by omega) (by unfold maxLen; omega) (by omega) (by simp; have := L1.size; omega) (w3.heap.size + 1) (by simp) ?_
    intro gg cap' w4 hr4 hg4 hat4 hlt4
    have hnv : ∀ z, v.ownBlock = some z → nb ≤ z ∧ z ≠ Bx := fun z hz => ⟨(own3.lt z hz).1, fun e => by subst e; exact own_ty own3 hz ((L2.block _ (lt_of_heap hbx)).trans hbx) (by decide)⟩
    have b4 : ∀ k, k < W.heap.size → (∀ z, v.ownBlock = some z → k ≠ z) → w4.heap[k]? = W.heap[k]? := fun k hk hz => (hg4.block k (Nat.lt_of_lt_of_le hk L2.size) (fun e => hz _ e.symm rfl)).trans (L2.block k hk)
    have x4 := (b4 Bx (lt_of_heap hbx) (fun z hz e => (hnv z hz).2 e.symm)).trans hbx
    have y4 : Boxed w4 w.heap.size 29 (.pointer (some ⟨sp, 0, none⟩)) := (b4 _ m4.lt (fun z hz e => by have := (hnv z hz).1; omega)).trans m4
    have B4 : Boxed w4 B5 22 v := (b4 _ m1.lt (fun z hz e => by have := (hnv z hz).1; omega)).trans m1
    have k2 := b4 g2 (by omega) (fun z hz e => by have := (hnv z hz).1; omega)
    have k5 := b4 g5 (by omega) (fun z hz e => by have := (hnv z hz).1; omega)
    refine hK.out _ _ ⟨y4.cell, x4⟩ (fun _ => ?_)
    clear hK K
    try simp only [putS]
    refine wpAnyH_ready (rs := [6]) (by kernel_rfl) (by simp) ?_
    refine AllReadyH.cons rfl (fun K hK => ?_) AllReadyH.nil
    have c0 := B4.cell
    have f0 := B4.frozen
    go_simp
    have z4 : Below w.heap.size w w4 := (m6.trans (L2.mono m6.size)).grown hg4 (by have := L2.size; have := m6.size; omega) (fun z hz => by have := (hnv z hz).1; omega)
    have zz : Below w.heap.size W w4 := (L2.mono m6.size).grown hg4 (by have := L2.size; have := m6.size; omega) (fun z hz => by have := (hnv z hz).1; omega)
    refine hK.out _ _ ⟨(y4.other (by omega) _).cell, ((Below.heap_setCell _ _ _ _ (by simp; omega))).trans x4⟩ (fun _ => ?_)
    clear hK K c0 f0
    try simp only [putS]
    refine wpAnyH_done (by kernel_rfl) ?_ _
    have hkf : KeepsFrom B1 W (w4.setCell ⟨B5, 0, none⟩ (.slice (some ⟨gg, 0, none⟩) (pre.length + 1) cap')) := (mat_keeps own3 L2 hg4).trans ((KeepsOthers.setCell _ _ _).from _)
    have hfin : MatP w s sp B5 nb (pre ++ [x]) (w4.setCell ⟨B5, 0, none⟩ (.slice (some ⟨gg, 0, none⟩) (pre.length + 1) cap')) := by
      obtain ⟨htri, hx0, hx1, hx2⟩ := HT3.out
      refine ⟨⟨⟨_, d ++ [x0, x1, x2], B4.set _, ?_, ?_⟩, y4.other (by omega) _, ?_⟩, z4.setCell (p := ⟨B5, 0, none⟩) (show w.heap.size ≤ B5 by omega) _⟩
      · rw [List.flatMap_append, List.length_append]
        have e : [x0, x1, x2].flatMap VE.enc = [.int .i64 e0.k, .bool e0.b, .int .i64 e0.n, .string e0.t, .string e0.x, .slice none 0 0, .int .i64 e1.k, .bool e1.b, .int .i64 e1.n, .string e1.t, .string e1.x, .slice none 0 0, .int .i64 e2.k, .bool e2.b, .int .i64 e2.n, .string e2.t, .string e2.x, .slice none 0 0] := by simp [VE.enc, hx0, hx1, hx2]
        rw [e]
        exact hr4.kept (grownBy_setCell' _ _ _) (.inr (fun e => by
          have := hr4.lt B5 e
          have := this.1
          omega))
      · rw [List.map_append, h3v, List.map_append, List.map_append, flat_app]
        exact congrArg _ htri.symm
      · have := L2.size
        have := hg4.size
        have := m5
        show nb ≤ (w4.setCell _ _).heap.size
        rw [World.size_setCell]
        omega
    exact ⟨hkf, ⟨zz.setCell (p := ⟨B5, 0, none⟩) (show w.heap.size ≤ B5 by omega) _, (Below.heap_setCell _ _ _ _ (by simp; omega)).trans k2, (Below.heap_setCell _ _ _ _ (by simp; omega)).trans k5⟩, hfin⟩

  · rw [if_pos (by rfl)]
    go_simp
    refine (HC.out _ L0).mono ?_
    rintro e9 w3 ⟨rfl, hb3⟩
    have L1 := L0.trans (hb3.mono L0.size)
    clear hb3
    refine hK.out _ _ ⟨(L1.cell (p := ⟨w.heap.size, 0, none⟩) m4.lt).trans m4.cell, (L1.block Bx (lt_of_heap hbx)).trans hbx⟩ (fun _ => ?_)
    clear hK K
    try simp only [putS]
    refine wpAnyH_ready (rs := [0, 4]) (by kernel_rfl) (by simp) ?_
    refine AllReadyH.cons rfl (fun K hK => ?_) (AllReadyH.cons rfl (fun K hK => ?_) AllReadyH.nil)
    · have c0 := (L1.cell (p := ⟨B5, 0, none⟩) m1.lt).trans m1.cell
      go_simp
      refine hK.out _ _ ⟨(L1.cell (p := ⟨w.heap.size, 0, none⟩) m4.lt).trans m4.cell, (L1.block Bx (lt_of_heap hbx)).trans hbx⟩ (fun _ => ?_)
      clear hK K c0
      try simp only [putS]
      refine wpAnyH_ready (rs := [4]) (by kernel_rfl) (by simp) ?_
      refine AllReadyH.cons rfl (fun K hK => ?_) AllReadyH.nil
      (try rw [if_pos (by rfl)])
      go_simp
      have own3 := (own_below m2 L1).alloc (.cells #[.int .i64 e0.k, .bool e0.b, .int .i64 e0.n, .string e0.t, .string e0.x, .slice none 0 0, .int .i64 e1.k, .bool e1.b, .int .i64 e1.n, .string e1.t, .string e1.x, .slice none 0 0, .int .i64 e2.k, .bool e2.b, .int .i64 e2.n, .string e2.t, .string e2.x, .slice none 0 0] 41)
      have L2 : Below W.heap.size W (w3.alloc (.cells #[.int .i64 e0.k, .bool e0.b, .int .i64 e0.n, .string e0.t, .string e0.x, .slice none 0 0, .int .i64 e1.k, .bool e1.b, .int .i64 e1.n, .string e1.t, .string e1.x, .slice none 0 0, .int .i64 e2.k, .bool e2.b, .int .i64 e2.n, .string e2.t, .string e2.x, .slice none 0 0] 41)) := L1.trans ((below1 w3 _).mono L1.size)
      refine hK.out _ _ ⟨(L2.cell (p := ⟨w.heap.size, 0, none⟩) m4.lt).trans m4.cell, (L2.block Bx (lt_of_heap hbx)).trans hbx⟩ (fun _ => ?_)
      clear hK K
      try simp only [putS]
      refine wpAnyH_ready (rs := [5]) (by kernel_rfl) (by simp) ?_
      refine AllReadyH.cons rfl (fun K hK => ?_) AllReadyH.nil
      refine step_append_lies _ (by rfl) _ _ _ (by rfl) nb 41 z0 _ 18 240 Tryz.underlying22 hi hz0 hz1 hz2 rfl (by omega) v pre.length (d.flatMap VE.enc) (by rfl) own3 ⟨w3.heap.size, 0, none⟩ 1 1 [.int .i64 e0.k, .bool e0.b, .int .i64 e0.n, .string e0.t, .string e0.x, .slice none 0 0, .int .i64 e1.k, .bool e1.b, .int .i64 e1.n, .string e1.t, .string e1.x, .slice none 0 0, .int .i64 e2.k, .bool e2.b, .int .i64 e2.n, .string e2.t, .string e2.x, .slice none 0 0] (by rfl) (by rfl) (World.news_of_block (cs := #[.int .i64 e0.k, .bool e0.b, .int .i64 e0.n, .string e0.t, .string e0.x, .slice none 0 0, .int .i64 e1.k, .bool e1.b, .int .i64 e1.n, .string e1.t, .string e1.x, .slice none 0 0, .int .i64 e2.k, .bool e2.b, .int .i64 e2.n, .string e2.t, .string e2.x, .slice none 0 0]) (t := 41) (fr := (0, 0)) (by exact heap_alloc_new w3 _)) (by simp [Value.oneCell']) (by omega) (by unfold maxLen; omega) (by omega) (by simp; have := L1.size; omega) (w3.heap.size + 1) (by simp) ?_
      intro gg cap' w4 hr4 hg4 hat4 hlt4
      have hnv : ∀ z, v.ownBlock = some z → nb ≤ z ∧ z ≠ Bx := fun z hz => ⟨(own3.lt z hz).1, fun e => by subst e; exact own_ty own3 hz ((L2.block _ (lt_of_heap hbx)).trans hbx) (by decide)⟩
      have b4 : ∀ k, k < W.heap.size → (∀ z, v.ownBlock = some z → k ≠ z) → w4.heap[k]? = W.heap[k]? := fun k hk hz => (hg4.block k (Nat.lt_of_lt_of_le hk L2.size) (fun e => hz _ e.symm rfl)).trans (L2.block k hk)
      have x4 := (b4 Bx (lt_of_heap hbx) (fun z hz e => (hnv z hz).2 e.symm)).trans hbx
      have y4 : Boxed w4 w.heap.size 29 (.pointer (some ⟨sp, 0, none⟩)) := (b4 _ m4.lt (fun z hz e => by have := (hnv z hz).1; omega)).trans m4
      have B4 : Boxed w4 B5 22 v := (b4 _ m1.lt (fun z hz e => by have := (hnv z hz).1; omega)).trans m1
      have k2 := b4 g2 (by omega) (fun z hz e => by have := (hnv z hz).1; omega)
      have k5 := b4 g5 (by omega) (fun z hz e => by have := (hnv z hz).1; omega)
      refine hK.out _ _ ⟨y4.cell, x4⟩ (fun _ => ?_)
      clear hK K
      try simp only [putS]
      refine wpAnyH_ready (rs := [6]) (by kernel_rfl) (by simp) ?_
      refine AllReadyH.cons rfl (fun K hK => ?_) AllReadyH.nil
      have c0 := B4.cell
      have f0 := B4.frozen
      go_simp
      have z4 : Below w.heap.size w w4 := (m6.trans (L2.mono m6.size)).grown hg4 (by have := L2.size; have := m6.size; omega) (fun z hz => by have := (hnv z hz).1; omega)
      have zz : Below w.heap.size W w4 := (L2.mono m6.size).grown hg4 (by have := L2.size; have := m6.size; omega) (fun z hz => by have := (hnv z hz).1; omega)
      refine hK.out _ _ ⟨(y4.other (by omega) _).cell, ((Below.heap_setCell _ _ _ _ (by simp; omega))).trans x4⟩ (fun _ => ?_)
      clear hK K c0 f0
      try simp only [putS]
      refine wpAnyH_done (by kernel_rfl) ?_ _
      have hkf : KeepsFrom B1 W (w4.setCell ⟨B5, 0, none⟩ (.slice (some ⟨gg, 0, none⟩) (pre.length + 1) cap')) := (mat_keeps own3 L2 hg4).trans ((KeepsOthers.setCell _ _ _).from _)
      have hfin : MatP w s sp B5 nb (pre ++ [x]) (w4.setCell ⟨B5, 0, none⟩ (.slice (some ⟨gg, 0, none⟩) (pre.length + 1) cap')) := by
        obtain ⟨htri, hx0, hx1, hx2⟩ := HT3.out
        refine ⟨⟨⟨_, d ++ [x0, x1, x2], B4.set _, ?_, ?_⟩, y4.other (by omega) _, ?_⟩, z4.setCell (p := ⟨B5, 0, none⟩) (show w.heap.size ≤ B5 by omega) _⟩
        · rw [List.flatMap_append, List.length_append]
          have e : [x0, x1, x2].flatMap VE.enc = [.int .i64 e0.k, .bool e0.b, .int .i64 e0.n, .string e0.t, .string e0.x, .slice none 0 0, .int .i64 e1.k, .bool e1.b, .int .i64 e1.n, .string e1.t, .string e1.x, .slice none 0 0, .int .i64 e2.k, .bool e2.b, .int .i64 e2.n, .string e2.t, .string e2.x, .slice none 0 0] := by simp [VE.enc, hx0, hx1, hx2]
          rw [e]
          exact hr4.kept (grownBy_setCell' _ _ _) (.inr (fun e => by
            have := hr4.lt B5 e
            have := this.1
            omega))
        · rw [List.map_append, h3v, List.map_append, List.map_append, flat_app]
          exact congrArg _ htri.symm
        · have := L2.size
          have := hg4.size
          have := m5
          show nb ≤ (w4.setCell _ _).heap.size
          rw [World.size_setCell]
          omega
      exact ⟨hkf, ⟨zz.setCell (p := ⟨B5, 0, none⟩) (show w.heap.size ≤ B5 by omega) _, (Below.heap_setCell _ _ _ _ (by simp; omega)).trans k2, (Below.heap_setCell _ _ _ _ (by simp; omega)).trans k5⟩, hfin⟩

    · (try rw [if_pos (by rfl)])
      go_simp
      have own3 := (own_below m2 L1).alloc (.cells #[.int .i64 e0.k, .bool e0.b, .int .i64 e0.n, .string e0.t, .string e0.x, .slice none 0 0, .int .i64 e1.k, .bool e1.b, .int .i64 e1.n, .string e1.t, .string e1.x, .slice none 0 0, .int .i64 e2.k, .bool e2.b, .int .i64 e2.n, .string e2.t, .string e2.x, .slice none 0 0] 41)
      have L2 : Below W.heap.size W (w3.alloc (.cells #[.int .i64 e0.k, .bool e0.b, .int .i64 e0.n, .string e0.t, .string e0.x, .slice none 0 0, .int .i64 e1.k, .bool e1.b, .int .i64 e1.n, .string e1.t, .string e1.x, .slice none 0 0, .int .i64 e2.k, .bool e2.b, .int .i64 e2.n, .string e2.t, .string e2.x, .slice none 0 0] 41)) := L1.trans ((below1 w3 _).mono L1.size)
      refine hK.out _ _ ⟨(L2.cell (p := ⟨w.heap.size, 0, none⟩) m4.lt).trans m4.cell, (L2.block Bx (lt_of_heap hbx)).trans hbx⟩ (fun _ => ?_)
      clear hK K
      try simp only [putS]
      refine wpAnyH_ready (rs := [0]) (by kernel_rfl) (by simp) ?_
      refine AllReadyH.cons rfl (fun K hK => ?_) AllReadyH.nil
      have c0 := (L2.cell (p := ⟨B5, 0, none⟩) m1.lt).trans m1.cell
      go_simp
      refine hK.out _ _ ⟨(L2.cell (p := ⟨w.heap.size, 0, none⟩) m4.lt).trans m4.cell, (L2.block Bx (lt_of_heap hbx)).trans hbx⟩ (fun _ => ?_)
      clear hK K c0
      try simp only [putS]
      refine wpAnyH_ready (rs := [5]) (by kernel_rfl) (by simp) ?_
      refine AllReadyH.cons rfl (fun K hK => ?_) AllReadyH.nil
      refine step_append_lies _ (by rfl) _ _ _ (by rfl) nb 41 z0 _ 18 240 Tryz.underlying22 hi hz0 hz1 hz2 rfl (by omega) v pre.length (d.flatMap VE.enc) (by rfl) own3 ⟨w3.heap.size, 0, none⟩ 1 1 [.int .i64 e0.k, .bool e0.b, .int .i64 e0.n, .string e0.t, .string e0.x, .slice none 0 0, .int .i64 e1.k, .bool e1.b, .int .i64 e1.n, .string e1.t, .string e1.x, .slice none 0 0, .int .i64 e2.k, .bool e2.b, .int .i64 e2.n, .string e2.t, .string e2.x, .slice none 0 0] (by rfl) (by rfl) (World.news_of_block (cs := #[.int .i64 e0.k, .bool e0.b, .int .i64 e0.n, .string e0.t, .string e0.x, .slice none 0 0, .int .i64 e1.k, .bool e1.b, .int .i64 e1.n, .string e1.t, .string e1.x, .slice none 0 0, .int .i64 e2.k, .bool e2.b, .int .i64 e2.n, .string e2.t, .string e2.x, .slice none 0 0]) (t := 41) (fr := (0, 0)) (by exact heap_alloc_new w3 _)) (by simp [Value.oneCell']) (by omega) (by unfold maxLen; omega) (by omega) (by simp; have := L1.size; omega) (w3.heap.size + 1) (by simp) ?_
      intro gg cap' w4 hr4 hg4 hat4 hlt4
      have hnv : ∀ z, v.ownBlock = some z → nb ≤ z ∧ z ≠ Bx := fun z hz => ⟨(own3.lt z hz).1, fun e => by subst e; exact own_ty own3 hz ((L2.block _ (lt_of_heap hbx)).trans hbx) (by decide)⟩
      have b4 : ∀ k, k < W.heap.size → (∀ z, v.ownBlock = some z → k ≠ z) → w4.heap[k]? = W.heap[k]? := fun k hk hz => (hg4.block k (Nat.lt_of_lt_of_le hk L2.size) (fun e => hz _ e.symm rfl)).trans (L2.block k hk)
      have x4 := (b4 Bx (lt_of_heap hbx) (fun z hz e => (hnv z hz).2 e.symm)).trans hbx
      have y4 : Boxed w4 w.heap.size 29 (.pointer (some ⟨sp, 0, none⟩)) := (b4 _ m4.lt (fun z hz e => by have := (hnv z hz).1; omega)).trans m4
      have B4 : Boxed w4 B5 22 v := (b4 _ m1.lt (fun z hz e => by have := (hnv z hz).1; omega)).trans m1
      have k2 := b4 g2 (by omega) (fun z hz e => by have := (hnv z hz).1; omega)
      have k5 := b4 g5 (by omega) (fun z hz e => by have := (hnv z hz).1; omega)
      refine hK.out _ _ ⟨y4.cell, x4⟩ (fun _ => ?_)
      clear hK K
      try simp only [putS]
      refine wpAnyH_ready (rs := [6]) (by kernel_rfl) (by simp) ?_
      refine AllReadyH.cons rfl (fun K hK => ?_) AllReadyH.nil
      have c0 := B4.cell
      have f0 := B4.frozen
      go_simp
      have z4 : Below w.heap.size w w4 := (m6.trans (L2.mono m6.size)).grown hg4 (by have := L2.size; have := m6.size; omega) (fun z hz => by have := (hnv z hz).1; omega)
      have zz : Below w.heap.size W w4 := (L2.mono m6.size).grown hg4 (by have := L2.size; have := m6.size; omega) (fun z hz => by have := (hnv z hz).1; omega)
      refine hK.out _ _ ⟨(y4.other (by omega) _).cell, ((Below.heap_setCell _ _ _ _ (by simp; omega))).trans x4⟩ (fun _ => ?_)
      clear hK K c0 f0
      try simp only [putS]
      refine wpAnyH_done (by kernel_rfl) ?_ _
      have hkf : KeepsFrom B1 W (w4.setCell ⟨B5, 0, none⟩ (.slice (some ⟨gg, 0, none⟩) (pre.length + 1) cap')) := (mat_keeps own3 L2 hg4).trans ((KeepsOthers.setCell _ _ _).from _)
      have hfin : MatP w s sp B5 nb (pre ++ [x]) (w4.setCell ⟨B5, 0, none⟩ (.slice (some ⟨gg, 0, none⟩) (pre.length + 1) cap')) := by
        obtain ⟨htri, hx0, hx1, hx2⟩ := HT3.out
        refine ⟨⟨⟨_, d ++ [x0, x1, x2], B4.set _, ?_, ?_⟩, y4.other (by omega) _, ?_⟩, z4.setCell (p := ⟨B5, 0, none⟩) (show w.heap.size ≤ B5 by omega) _⟩
        · rw [List.flatMap_append, List.length_append]
          have e : [x0, x1, x2].flatMap VE.enc = [.int .i64 e0.k, .bool e0.b, .int .i64 e0.n, .string e0.t, .string e0.x, .slice none 0 0, .int .i64 e1.k, .bool e1.b, .int .i64 e1.n, .string e1.t, .string e1.x, .slice none 0 0, .int .i64 e2.k, .bool e2.b, .int .i64 e2.n, .string e2.t, .string e2.x, .slice none 0 0] := by simp [VE.enc, hx0, hx1, hx2]
          rw [e]
          exact hr4.kept (grownBy_setCell' _ _ _) (.inr (fun e => by
            have := hr4.lt B5 e
            have := this.1
            omega))
        · rw [List.map_append, h3v, List.map_append, List.map_append, flat_app]
          exact congrArg _ htri.symm
        · have := L2.size
          have := hg4.size
          have := m5
          show nb ≤ (w4.setCell _ _).heap.size
          rw [World.size_setCell]
          omega
      exact ⟨hkf, ⟨zz.setCell (p := ⟨B5, 0, none⟩) (show w.heap.size ≤ B5 by omega) _, (Below.heap_setCell _ _ _ _ (by simp; omega)).trans k2, (Below.heap_setCell _ _ _ _ (by simp; omega)).trans k5⟩, hfin⟩


end YtanbgdhmfjgihaaGreatDoor
end Go.Proofs

/- Match: the triples that fit a pattern. -/
namespace Go.Proofs
open Go.Shelf
namespace YtanbgdhmfjgihaaGreatDoor
open Go.RowKit
attribute [local go_sem] Oper.semAt_some
set_option maxHeartbeats 12800000 in
set_option maxRecDepth 20000 in
theorem matchAt (sp : Nat) (l : List Tri3) (s : SM) (pv pr : Option Addr) (cv cr : Nat) (pp : Nat → Option Addr) (cc : Nat → Nat) (w : World) (h0 : StoreIs w sp s pv pr cv cr pp cc) (hcc : ∀ k, k < 6 → (s.ls k).length ≤ cc k) (hl : Loaded l s) (hn : l.length ≤ 65536) (hp : ∀ u ∈ s.vs, Plain u) (hG : Gd w) (hT : Tab w)
    (v0 v1 v2 : V6) (u : Nat → Val) (q : Nat → List Val) (i0 : Is w v0 (u 0) (q 0)) (i1 : Is w v1 (u 1) (q 1)) (i2 : Is w v2 (u 2) (q 2)) (b : Nat → Bool) (hb0 : b 0 = decide (v0.k = 0)) (hb1 : b 1 = decide (v1.k = 0)) (hb2 : b 2 = decide (v2.k = 0))
    (hs : ∀ v, b v = false → ∀ a ∈ s.vs, sameP a (u v) = true ↔ a = u v) :
    Calls Tryz.prog 17 #[.pointer (some ⟨sp, 0, none⟩), .agg #[.int .i64 v0.k, .bool v0.b, .int .i64 v0.n, .string v0.t, .string v0.x, .slice v0.p v0.len v0.cap, .int .i64 v1.k, .bool v1.b, .int .i64 v1.n, .string v1.t, .string v1.x, .slice v1.p v1.len v1.cap, .int .i64 v2.k, .bool v2.b, .int .i64 v2.n, .string v2.t, .string v2.x, .slice v2.p v2.len v2.cap]] w (MatchPost w ((fitRows s b u (jnB v0 v1 v2)).map s.tri)) := by
  obtain ⟨z0, hi, hz0, hz1, hz2⟩ := info_parts info41b
  have hlen := fitRows_len hl hn b u (jnB v0 v1 v2)
  have hst := fun g2 g5 w1 hit => fitStops sp l s pv pr cv cr pp cc w h0 hcc hl hn hG hT v0 v1 v2 u q i0 i1 i2 b hb0 hb1 hb2 hs g2 g5 w1 hit
  obtain ⟨X, hX⟩ : ∃ X, X = fitRows s b u (jnB v0 v1 v2) := ⟨_, rfl⟩
  rw [← hX] at hst hlen ⊢
  obtain ⟨W0, hW0⟩ : ∃ W0, W0 = ((w.alloc (.cells #[.pointer (some ⟨sp, 0, none⟩)] 29)).alloc (.cells #[.int .i64 v0.k, .bool v0.b, .int .i64 v0.n, .string v0.t, .string v0.x, .slice v0.p v0.len v0.cap, .int .i64 v1.k, .bool v1.b, .int .i64 v1.n, .string v1.t, .string v1.x, .slice v1.p v1.len v1.cap, .int .i64 v2.k, .bool v2.b, .int .i64 v2.n, .string v2.t, .string v2.x, .slice v2.p v2.len v2.cap] 45)).alloc (.cells #[.slice none 0 0] 22) := ⟨_, rfl⟩
  have b0 : Below w.heap.size w W0 := by rw [hW0]; exact (below2 _ _ _).alloc (by simp; omega) _
  have s0 : W0.heap[w.heap.size]? = some (.cells #[.pointer (some ⟨sp, 0, none⟩)] 29) := by rw [hW0]; exact heap_old _ (heap_old _ (heap_new _ _ rfl))
  have p0 : W0.heap[w.heap.size + 1]? = some (.cells #[.int .i64 v0.k, .bool v0.b, .int .i64 v0.n, .string v0.t, .string v0.x, .slice v0.p v0.len v0.cap, .int .i64 v1.k, .bool v1.b, .int .i64 v1.n, .string v1.t, .string v1.x, .slice v1.p v1.len v1.cap, .int .i64 v2.k, .bool v2.b, .int .i64 v2.n, .string v2.t, .string v2.x, .slice v2.p v2.len v2.cap] 45) := by rw [hW0]; exact heap_old _ (heap_new _ _ (by simp))
  have n0 : Boxed W0 (w.heap.size + 1 + 1) 22 (.slice none 0 0) := by rw [hW0]; exact heap_new _ _ (by simp)
  have cs0 := cell_of s0 0 rfl
  have HST := Lib.hid hst
  have HB := Lib.hid b0
  have HN := Lib.hid n0
  have HS0 := Lib.hid s0
  have HW := Lib.hid hW0
  have HSI := Lib.hid h0
  have HOK := Lib.hid (hl.ok hn)
  have HPL := Lib.hid hp
  clear hst h0 hcc hl hG hT i0 i1 i2 hb0 hb1 hb2 hs hX hn hp s0
  refine (callsIn_wide (n := 4)).1 ?_
  refine callsIn_of_wp_marks Tryz.func17 rfl trivial ?_ rfl
  simp only [Tryz.ntmps17, List.size_toArray, List.length_cons, List.length_nil, Nat.reduceAdd, Nat.reduceSub, Array.replicate_succ, Array.replicate_zero, List.push_toArray, List.append_toArray, List.nil_append, List.cons_append]
  gi_upto_region 2 with fail
  try rw [← HW.out]
  gi_wp2_with (first
    | ((with_reducible refine inPat wideF (.tmp 3) (w.heap.size + 1) v0 v1 v2 p0 ?_ ?_ ?_ ?_); rfl; rfl; rfl)
    | (refine ⟨trivial, ?_⟩; gi_at_call 51; refine Hid.out ?_))
  refine Lib.hid ?_
  refine (callsIn_wide.2 (fittingAt sp v0 v1 v2 _)).mono ?_
  rintro e w1 hfp
  try rw [← HW.out] at hfp
  obtain ⟨g2, g5, rfl, hit, h2, h5⟩ := hfp
  have hs0 := HB.out.size
  have hs1 : w.heap.size + 1 + 1 < W0.heap.size := HN.out.lt
  have b1 := hit.bel
  have hs2 := b1.size
  have hit2 := hit.from HB.out
  have hg2 := lt_of_heap hit.c2
  have hg5 := lt_of_heap hit.way
  have HX := Lib.hid (HST.out g2 g5 w1 hit2)
  have n1 : Boxed w1 (w.heap.size + 1 + 1) 22 (.slice none 0 0) := (b1.block _ hs1).trans HN.out
  have m1 : Boxed w1 w.heap.size 29 (.pointer (some ⟨sp, 0, none⟩)) := (b1.block _ (by omega)).trans HS0.out
  have hbs := hit2.bel.size
  obtain ⟨nb, hnb⟩ : ∃ nb, nb = w1.heap.size := ⟨_, rfl⟩
  have HM1 : Hid (MatP w s sp (w.heap.size + 1 + 1) nb [] w1) := Lib.hid ⟨⟨⟨_, [], n1, World.ownsRow_nil _ _ _ _, rfl⟩, m1, Nat.le_of_eq hnb⟩, hit2.bel⟩
  clear hit hit2 b1 p0 HST n1 m1 cs0
  obtain ⟨B5, hB5⟩ : ∃ B5, B5 = w.heap.size + 1 + 1 := ⟨_, rfl⟩
  rw [← hB5] at HM1 HN hs1 ⊢
  have hB5n : w.heap.size < B5 := by omega
  clear hB5
  gi_wp2
  refine wpIn_rangeFunc_ownH (gf := 88) (lb := #[.pointer (some ⟨g2, 0, none⟩), .pointer (some ⟨g5, 0, none⟩)]) rfl (by decide) rfl trivial (enters_of Tryz.func88 (by kernel_rfl) rfl) HX.out keepB_t (keepB_b hbs hg2 hg5) (Below.refl _ _) (fun _ => rfl)
    (MatP w s sp B5 nb)
    (fun _ _ _ => False)
    (OwnFrom.and (Own.from (fun pre A B row hs hg hr => ⟨mat_own s B5 nb pre A B row hs.1 hg hr, boxed_own w.heap.size 29 (fun _ : Unit => .pointer (some ⟨sp, 0, none⟩)) () A B row hs.2.1 hg hr, Nat.le_trans hs.2.2 hg.size⟩) _) (ownFrom_below (Nat.le_refl _) hbs))
    (fun _ _ _ _ _ hs _ _ => hs)
    HM1.out
    (MatX nb (fun x Bx => { tmps := #[.pointer (some ⟨sp, 0, none⟩), .agg #[.int .i64 v0.k, .bool v0.b, .int .i64 v0.n, .string v0.t, .string v0.x, .slice v0.p v0.len v0.cap, .int .i64 v1.k, .bool v1.b, .int .i64 v1.n, .string v1.t, .string v1.x, .slice v1.p v1.len v1.cap, .int .i64 v2.k, .bool v2.b, .int .i64 v2.n, .string v2.t, .string v2.x, .slice v2.p v2.len v2.cap], .pointer (some ⟨w.heap.size, 0, none⟩), .pointer (some ⟨w.heap.size + 1, 0, none⟩), .slice none 0 0, .pointer (some ⟨B5, 0, none⟩), .pointer (some ⟨Bx, 0, none⟩), .pointer (some ⟨sp, 0, none⟩), .agg #[.int .i64 v0.k, .bool v0.b, .int .i64 v0.n, .string v0.t, .string v0.x, .slice v0.p v0.len v0.cap, .int .i64 v1.k, .bool v1.b, .int .i64 v1.n, .string v1.t, .string v1.x, .slice v1.p v1.len v1.cap, .int .i64 v2.k, .bool v2.b, .int .i64 v2.n, .string v2.t, .string v2.x, .slice v2.p v2.len v2.cap], .func (.func 88) #[] #[.pointer (some ⟨g2, 0, none⟩), .pointer (some ⟨g5, 0, none⟩)], .agg #[.int .i64 (x.1.a : Nat), .int .i64 (x.1.b : Nat), .int .i64 (x.1.c : Nat)], undef, undef, undef, undef, undef, undef, undef], defers := [] }))
    (fun x a' => Own.from (matX_own nb _ x a') _)
    ?assign ?body ?done ?stop
  case assign =>
    rintro l pre x W K hI hK
    have HI := Lib.hid hI
    have HK := Lib.hid hK
    clear hI hK
    gi_wp2_with (first
      | ((with_reducible refine inStore81 (wideR l) (.tmp 6) (.tmp 10) W.heap.size x.1.a x.1.b x.1.c (heap_new _ _ rfl) rfl ?_ ?_ ?_ ?_ ?_); rfl; rfl; rfl; rfl; intro w5 ho5 R5))
    have hw1 := HI.out.1.2.2
    have z5 : Below W.heap.size W w5 := below_only (below1 W _) ho5 (Nat.le_refl _) (by simp)
    have hkf : KeepsFrom w1.heap.size W w5 := ⟨z5.size, fun k o _ hk _ => (z5.block k (lt_of_heap hk)).trans hk⟩
    have hkp : KeepB w.heap.size g2 g5 W w5 := ⟨z5.mono HI.out.2.size, z5.block _ (by omega), z5.block _ (by omega)⟩
    have hI5 : MatP w s sp B5 nb pre w5 := by
      obtain ⟨⟨⟨v, d, m1, m2, m3⟩, m4, m5⟩, m6⟩ := HI.out
      exact ⟨⟨⟨v, d, (z5.block _ m1.lt).trans m1, own_below m2 z5, m3⟩, (z5.block _ m4.lt).trans m4, Nat.le_trans m5 z5.size⟩, m6.trans (z5.mono m6.size)⟩
    clear z5 ho5
    generalize W.heap.size = Bx at *
    exact HK.out _ _ hkf hkp hI5 ⟨Bx, hw1, R5, rfl⟩
  case body =>
    rintro l pre x a' W hl hrec hI ⟨Bx, hBx, hbx, rfl⟩ hlt
    exact matBody sp s pv pr cv cr pp cc w HSI.out HOK.out HPL.out v0 v1 v2 g2 g5 w1.heap.size nb B5 Bx l hbs hnb hg2 hg5 (by omega) (by omega) hB5n pre x W hI hBx hbx (by omega)
  case done =>
    rintro D ys W hD hys ⟨⟨⟨v, d, m1, m2, h3v⟩, m4, m5⟩, m6⟩ hK
    have hc := m1.cell
    have HK := Lib.hid hK
    have HF : Hid (MatchPost w (X.map s.tri) (.returned v) (W.putObj D (.deferred none))) := Lib.hid (by
      rw [← hys]
      have m7 : Boxed (W.putObj D (.deferred none)) B5 22 v := (World.putObj_heap_other (by omega)).trans m1
      exact mat_end (s := s) (k := ys.length) ⟨m7, ownsRow_putObj m2 _ hK rfl, h3v⟩ (by rw [List.length_map, List.length_map]) (m6.trans (belowK_b (w := w) (Nat.le_refl _) W D _ _ (by omega) hK rfl rfl)) (by omega))
    clear hys m1 m2 h3v m4 m5 m6 hK
    gi_wp2
    refine ⟨by simp, .inl ⟨_, _, rfl, run_takeDeferred HK.out, ?_⟩⟩
    refine ⟨_, results_tmp rfl _ _ _, ?_⟩
    exact HF.out
  case stop =>
    rintro D c pre W _ _ h _
    exact h.elim
end YtanbgdhmfjgihaaGreatDoor
end Go.Proofs

/- Match and Count, by what the store holds. -/
namespace Go.Proofs.YtanbgdhmfjgihaaGreatDoor
open Go.RowKit

theorem same_any {a u : Val} (ha : Plain a) : sameP a u = true ↔ a = u := by
  obtain ⟨k2, b2, n2, t2, x2, l2⟩ := u
  cases l2 with
  | nil => exact same_plain ha ⟨k2, b2, n2, t2, x2, rfl⟩
  | cons c r =>
    obtain ⟨k, b, n, t, x, rfl⟩ := ha
    constructor
    · intro h
      rw [sameP] at h
      simp at h
    · intro h
      injection h with _ _ _ _ _ h6
      cases h6
def b3 (v0 v1 v2 : V6) : Nat → Bool
  | 0 => decide (v0.k = 0)
  | 1 => decide (v1.k = 0)
  | _ => decide (v2.k = 0)
def u3 (u0 u1 u2 : Val) : Nat → Val
  | 0 => u0
  | 1 => u1
  | _ => u2
def q3 (q0 q1 q2 : List Val) : Nat → List Val
  | 0 => q0
  | 1 => q1
  | _ => q2
/-- A store that was loaded, in memory. -/
structure Sto (W : World) (sp : Nat) (l : List Tri3) (s : SM) : Prop where
  g : Gd W
  t : Tab W
  n : l.length ≤ 65536
  ld : Loaded l s
  ok : ∀ t ∈ l, t3Chk t = true
  st : ∃ pv pr cv cr pp cc, StoreIs W sp s pv pr cv cr pp cc ∧ ∀ k, k < 6 → (s.ls k).length ≤ cc k
theorem Sto.below {W W' : World} {sp : Nat} {l : List Tri3} {s : SM} (h : Sto W sp l s) (b : Below W.heap.size W W') : Sto W' sp l s := by
  obtain ⟨h1, h2, h3, h4, h5, pv, pr, cv, cr, pp, cc, h6, h7⟩ := h
  exact ⟨h1.below b, h2.below b, h3, h4, h5, pv, pr, cv, cr, pp, cc, h6.belowF b, h7⟩
theorem Sto.plain {W : World} {sp : Nat} {l : List Tri3} {s : SM} (h : Sto W sp l s) : ∀ u ∈ s.vs, Plain u := fun u hu => (h.ld.plain h.ok u hu).1
def SM.fit (s : SM) (v0 v1 v2 : V6) (u0 u1 u2 : Val) : List Tri3 := (fitRows s (b3 v0 v1 v2) (u3 u0 u1 u2) (jnB v0 v1 v2)).map s.tri
section
variable {W : World} {sp : Nat} {l : List Tri3} {s : SM}
theorem matchS (h : Sto W sp l s) (v0 v1 v2 : V6) (u0 u1 u2 : Val) (q0 q1 q2 : List Val) (i0 : Is W v0 u0 q0) (i1 : Is W v1 u1 q1) (i2 : Is W v2 u2 q2) :
    Calls Tryz.prog 17 #[.pointer (some ⟨sp, 0, none⟩), .agg #[.int .i64 v0.k, .bool v0.b, .int .i64 v0.n, .string v0.t, .string v0.x, .slice v0.p v0.len v0.cap, .int .i64 v1.k, .bool v1.b, .int .i64 v1.n, .string v1.t, .string v1.x, .slice v1.p v1.len v1.cap, .int .i64 v2.k, .bool v2.b, .int .i64 v2.n, .string v2.t, .string v2.x, .slice v2.p v2.len v2.cap]] W (MatchPost W (s.fit v0 v1 v2 u0 u1 u2)) := by
  have hp := h.plain
  obtain ⟨h1, h2, h3, h4, h5, pv, pr, cv, cr, pp, cc, h6, h7⟩ := h
  exact matchAt sp l s pv pr cv cr pp cc W h6 h7 h4 h3 hp h1 h2 v0 v1 v2 (u3 u0 u1 u2) (q3 q0 q1 q2) i0 i1 i2 (b3 v0 v1 v2) rfl rfl rfl (fun v _ a ha => same_any (hp a ha))
theorem countS (h : Sto W sp l s) (v0 v1 v2 : V6) (u0 u1 u2 : Val) (q0 q1 q2 : List Val) (i0 : Is W v0 u0 q0) (i1 : Is W v1 u1 q1) (i2 : Is W v2 u2 q2) :
    Calls Tryz.prog 19 #[.pointer (some ⟨sp, 0, none⟩), .agg #[.int .i64 v0.k, .bool v0.b, .int .i64 v0.n, .string v0.t, .string v0.x, .slice v0.p v0.len v0.cap, .int .i64 v1.k, .bool v1.b, .int .i64 v1.n, .string v1.t, .string v1.x, .slice v1.p v1.len v1.cap, .int .i64 v2.k, .bool v2.b, .int .i64 v2.n, .string v2.t, .string v2.x, .slice v2.p v2.len v2.cap]] W fun e w' => e = .returned (.int .i64 ((s.fit v0 v1 v2 u0 u1 u2).length : Nat)) ∧ Below W.heap.size W w' := by
  have hp := h.plain
  obtain ⟨h1, h2, h3, h4, h5, pv, pr, cv, cr, pp, cc, h6, h7⟩ := h
  unfold SM.fit
  rw [List.length_map]
  exact countAt sp l s pv pr cv cr pp cc W h6 h7 h4 h3 h1 h2 v0 v1 v2 (u3 u0 u1 u2) (q3 q0 q1 q2) i0 i1 i2 (b3 v0 v1 v2) rfl rfl rfl (fun v _ a ha => same_any (hp a ha))
theorem allS (h : Sto W sp l s) : Calls Tryz.prog 15 #[.pointer (some ⟨sp, 0, none⟩)] W (AllPost W s) := by
  have hp := h.plain
  obtain ⟨h1, h2, h3, h4, h5, pv, pr, cv, cr, pp, cc, h6, h7⟩ := h
  exact allAt sp s pv pr cv cr pp cc W h6 (h4.ok h3) hp (by have := h4.nr; omega)
end
section
variable {l : List Tri3} {s : SM}
theorem rows_list (s : SM) : (List.range s.rs.length).map s.row = s.rs := by
  refine List.ext_getElem (by simp) fun i h1 h2 => ?_
  rw [List.getElem_map, List.getElem_range]
  unfold SM.row
  rw [List.getElem?_eq_getElem h2]
  rfl
theorem fit_rows (s : SM) (b : Nat → Bool) (u : Nat → Val) (j : R3 → Bool) : fitRows s b u j = s.rs.filter (fun r => j r && s.hasB b u r) := by
  unfold fitRows SM.nums
  have e : (List.range s.rs.length).filter (fun n => s.hasB b u ((s.rs[n]?).getD default)) = (List.range s.rs.length).filter (s.hasB b u ∘ s.row) := rfl
  rw [e, ← List.filter_map, rows_list, List.filter_filter]
theorem fit_free (s : SM) (v0 v1 v2 : V6) (u0 u1 u2 : Val) (h0 : v0.k = 0) (h1 : v1.k = 0) (h2 : v2.k = 0) (hj : ∀ r, jnB v0 v1 v2 r = true) : s.fit v0 v1 v2 u0 u1 u2 = s.all := by
  unfold SM.fit SM.all
  rw [fit_rows, List.filter_eq_self.2 fun r _ => ?_]
  rw [hj, Bool.true_and]
  unfold SM.hasB b3
  simp [h0, h1, h2]
theorem filt_one {P : R3 → Bool} (a : R3) : (l : List R3) → l.Nodup → a ∈ l → (∀ x ∈ l, P x = true ↔ x = a) → (l.filter P).length = 1
  | [], _, h, _ => absurd h (by simp)
  | x :: l, hd, h, hP => by
    rw [List.nodup_cons] at hd
    rcases List.mem_cons.1 h with e | e
    · subst e
      rw [List.filter_cons_of_pos ((hP a (List.mem_cons_self ..)).2 rfl), List.filter_eq_nil_iff.2 fun y hy hh => ?_]
      · rfl
      · have := (hP y (List.mem_cons_of_mem _ hy)).1 hh
        subst this
        exact hd.1 hy
    · rw [List.filter_cons_of_neg fun hh => ?_]
      · exact filt_one a l hd.2 e fun y hy => hP y (List.mem_cons_of_mem _ hy)
      · have := (hP x (List.mem_cons_self ..)).1 hh
        subst this
        exact hd.1 e
theorem fit_one (hl : Loaded l s) (hok : ∀ t ∈ l, t3Chk t = true) (hn : l.length ≤ 65536) (v0 v1 v2 : V6) (h0 : v0.k ≠ 0) (h1 : v1.k ≠ 0) (h2 : v2.k ≠ 0) {t : Tri3} (ht : t ∈ s.all) : (s.fit v0 v1 v2 t.s t.p t.o).length = 1 := by
  unfold SM.fit
  rw [List.length_map, fit_rows]
  obtain ⟨r, hr, e⟩ := List.mem_map.1 ht
  refine filt_one r s.rs (rows_nodup hl) hr fun x hx => ?_
  have hj : jnB v0 v1 v2 x = true := by
    unfold jnB joinP pairOk twice
    simp [h0, h1, h2]
  have hat := fun v => (hl.ok hn).at x hx v
  have hpl := fun u hu => (hl.plain hok u hu).1
  rw [hj, Bool.true_and, has_iff (fun v _ a ha => same_any (hpl a ha)) x hat]
  constructor
  · intro h
    refine tri_inj hl x r hx hr ?_
    rw [e]
    have e0 := h 0 (by omega) (by simp [b3, h0])
    have e1 := h 1 (by omega) (by simp [b3, h1])
    have e2 := h 2 (by omega) (by simp [b3, h2])
    obtain ⟨a, b, c⟩ := t
    unfold SM.tri
    exact congr (congr (congrArg Tri3.mk e0) e1) e2
  · intro h v hv _
    subst h
    rw [← e]
    obtain rfl | rfl | rfl : v = 0 ∨ v = 1 ∨ v = 2 := by omega
    · rfl
    · rfl
    · rfl
theorem fit_s (s : SM) (v0 v1 v2 : V6) (u0 u1 u2 : Val) (h0 : v0.k ≠ 0) (h1 : v1.k = 0) (h2 : v2.k = 0) (hj : ∀ r, jnB v0 v1 v2 r = true) : s.fit v0 v1 v2 u0 u1 u2 = s.all.filter fun t => sameP t.s u0 := by
  unfold SM.fit SM.all
  rw [fit_rows, List.filter_map]
  congr 1
  refine List.filter_congr fun r _ => ?_
  rw [hj, Bool.true_and]
  unfold SM.hasB b3
  simp [h0, h1, h2]
  rfl
theorem fit_x (hl : Loaded l s) (hok : ∀ t ∈ l, t3Chk t = true) (hn : l.length ≤ 65536) (v0 v1 v2 : V6) (u0 u1 u2 : Val) (h0 : v0.k = 0) (h1 : v1.k = 0) (h2 : v2.k = 0) (hj : ∀ r, jnB v0 v1 v2 r = decide (r.c = r.a)) : (s.fit v0 v1 v2 u0 u1 u2).length = (s.all.filter fun t => sameP t.s t.o).length := by
  unfold SM.fit SM.all
  rw [fit_rows, List.filter_map, List.length_map, List.length_map]
  congr 1
  refine List.filter_congr fun r hr => ?_
  have hb : s.hasB (b3 v0 v1 v2) (u3 u0 u1 u2) r = true := by
    unfold SM.hasB b3
    simp [h0, h1, h2]
  rw [hj, hb, Bool.and_true]
  obtain ⟨t, h1, a1, a2, a3⟩ := hl.row r hr
  have hpl := fun u hu => (hl.plain hok u hu).1
  obtain ⟨x1, y1⟩ := List.getElem?_eq_some_iff.1 a1
  obtain ⟨x3, y3⟩ := List.getElem?_eq_some_iff.1 a3
  rw [Bool.eq_iff_iff, decide_eq_true_iff]
  show r.c = r.a ↔ sameP (s.tri r).s (s.tri r).o = true
  unfold SM.tri
  rw [a1, a3, Option.getD_some, Option.getD_some, same_plain (hpl _ (by rw [← y1]; exact List.getElem_mem x1)) (hpl _ (by rw [← y3]; exact List.getElem_mem x3))]
  constructor
  · intro e
    rw [← y1, ← y3]
    congr 1
    exact e.symm
  · intro e
    exact (hl.rise.inj _ _ x3 x1 (by rw [y1, y3, e]))
end
theorem filt_at {α : Type} (Q : α → Bool) (L : List α) (k : Nat) (h : k < L.length) (hq : Q L[k] = true) : ∃ h2 : ((L.take k).filter Q).length < (L.filter Q).length, (L.filter Q)[((L.take k).filter Q).length] = L[k] := by
  have e : L = L.take k ++ L[k] :: L.drop (k + 1) := by
    rw [List.getElem_cons_drop, List.take_append_drop]
  have e2 : L.filter Q = (L.take k).filter Q ++ L[k] :: (L.drop (k + 1)).filter Q := by
    conv => lhs; rw [e]
    rw [List.filter_append, List.filter_cons_of_pos hq]
  have h3 : ((L.take k).filter Q).length < (L.filter Q).length := by rw [e2]; simp
  refine ⟨h3, ?_⟩
  have : (L.filter Q)[((L.take k).filter Q).length]? = some L[k] := by
    rw [e2, List.getElem?_append_right (Nat.le_refl _), Nat.sub_self]
    rfl
  rw [List.getElem?_eq_getElem h3] at this
  exact Option.some.inj this
theorem filt_yes {α : Type} (Q : α → Bool) (L : List α) (k : Nat) (h : k < L.length) (hq : Q L[k] = true) : ((L.take (k + 1)).filter Q).length = ((L.take k).filter Q).length + 1 := by
  rw [List.take_succ_eq_append_getElem h, List.filter_append, List.length_append]
  simp [hq]
theorem filt_no {α : Type} (Q : α → Bool) (L : List α) (k : Nat) (h : k < L.length) (hq : Q L[k] = false) : ((L.take (k + 1)).filter Q).length = ((L.take k).filter Q).length := by
  rw [List.take_succ_eq_append_getElem h, List.filter_append, List.length_append]
  simp [hq]
theorem t3_refl (t : Tri3) : t3Same t t = true := by
  unfold t3Same triSame
  rw [sameP_refl, sameP_refl, sameP_refl]
  rfl
theorem triEach_refl (l : List Tri3) : triEach l l = true := triEach_yes l l fun i h h2 => t3_refl _
end Go.Proofs.YtanbgdhmfjgihaaGreatDoor
