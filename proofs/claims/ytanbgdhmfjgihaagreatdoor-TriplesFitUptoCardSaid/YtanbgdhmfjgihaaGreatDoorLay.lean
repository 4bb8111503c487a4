/- Texts of one kind, one behind the other: each says ahead of itself what it shows. -/
import Derived.Test.YtanbgdhmfjgihaaGreatDoorLax
import Derived.Laws.MakeOwn
/- What a law's script holds: its triples, and what is asked of a cursor. -/
namespace Go.Proofs.YtanbgdhmfjgihaaGreatDoor
open Go.RowKit Go.ChangeShapes
variable {H : Type} {enc : TypeId × Value → H}

/-- A value's cells, read. -/
theorem one_of_trod {W : World} (B : Nat) (hBB : B ≤ 2097152) {n : Nat} {cs : List Value} {y : DataW H × List MemPlace} (h : DataW.trod enc Tryz.prog W 0 (fun _ => true) true n 39 cs = some y) (hB : Rows.uptoBulk y.1 ≤ B) :
    ∃ k b m t x q p, cs = [.int .i64 k, .bool b, .int .i64 m, .string t, .string x, p] ∧ Fine m t x (List.length (α := Val) q) ∧ Held W p q := by
  obtain ⟨n', k, b, m, t, x, L, yl, rfl, rfl, hp, ht, hx, hpl, wm⟩ := value_of_trod h
  obtain ⟨l, hheld, hll⟩ := vals_of_trod B hBB n' n' (Nat.le_refl _) L yl hp (by omega)
  obtain ⟨w1, w2⟩ := i64_wf wm
  exact ⟨k, b, m, t, x, l, L, rfl, ⟨by omega, by omega, by omega, w1, w2⟩, hheld⟩
theorem holdsOne_of {W : World} {g off : Nat} {k : Int} {b : Bool} {m : Int} {t x : ByteArray} {q : List Val} {p : Value} (hc : ∀ j v, [Value.int .i64 k, .bool b, .int .i64 m, .string t, .string x, p][j]? = some v → W.cell? ⟨g, off + j, none⟩ = some v) (hf : Fine m t x q.length) (hp : Held W p q) : HoldsOne W g off (.mk k b m t x q) := by
  unfold HoldsOne
  exact ⟨hc 0 _ rfl, hc 1 _ rfl, hc 2 _ rfl, hc 3 _ rfl, hc 4 _ rfl, hf, p, hc 5 _ rfl, hp⟩
/-- A triple's cells, read. -/
theorem tri_of_trod {W : World} (B : Nat) (hBB : B ≤ 2097152) {n : Nat} {cs : List Value} {y : DataW H × List MemPlace} (h : DataW.trod enc Tryz.prog W 0 (fun _ => true) true n 41 cs = some y) (hB : Rows.uptoBulk y.1 ≤ B) :
    ∃ t : Tri3, ∀ g off, (∀ j, j < 18 → W.cell? ⟨g, off + j, none⟩ = cs[j]?) → HoldsOne W g off t.s ∧ HoldsOne W g (off + 6) t.p ∧ HoldsOne W g (off + 12) t.o := by
  obtain ⟨xs, n', rfl, rfl, hl, hlen, hf⟩ := DataW.trod_struct Tryz.underlying41 h
  have hl18 : cs.length = 18 := hl.trans (by kernel_rfl : Tryz.prog.cellsOf 41 = 18)
  have hlen3 : xs.length = 3 := hlen.trans rfl
  obtain ⟨y0, y1, y2, rfl⟩ : ∃ a b c, xs = [a, b, c] := by
    match xs, hlen3 with
    | [a, b, c], _ => exact ⟨a, b, c, rfl⟩
  have e6 : Tryz.prog.cellsOf 39 = 6 := by kernel_rfl
  have h0 : DataW.trod enc Tryz.prog W 0 (fun _ => true) true n' 39 ((cs.drop 0).take (Tryz.prog.cellsOf 39)) = [y0, y1, y2][0]? := hf 0 _ rfl
  have h1 : DataW.trod enc Tryz.prog W 0 (fun _ => true) true n' 39 ((cs.drop 6).take (Tryz.prog.cellsOf 39)) = [y0, y1, y2][1]? := hf 1 _ rfl
  have h2 : DataW.trod enc Tryz.prog W 0 (fun _ => true) true n' 39 ((cs.drop 12).take (Tryz.prog.cellsOf 39)) = [y0, y1, y2][2]? := hf 2 _ rfl
  rw [e6] at h0 h1 h2
  have hall : Rows.uptoBulk y0.1 + (Rows.uptoBulk y1.1 + (Rows.uptoBulk y2.1 + 0)) + 1 ≤ B := hB
  obtain ⟨k0, b0, m0, t0, x0, q0, p0, e0, f0, d0⟩ := one_of_trod B hBB h0 (by omega)
  obtain ⟨k1, b1, m1, t1, x1, q1, p1, e1, f1, d1⟩ := one_of_trod B hBB h1 (by omega)
  obtain ⟨k2, b2, m2, t2, x2, q2, p2, e2, f2, d2⟩ := one_of_trod B hBB h2 (by omega)
  have part : ∀ (o : Nat) (L : List Value), (cs.drop o).take 6 = L → L.length = 6 → ∀ g off, (∀ j, j < 18 → W.cell? ⟨g, off + j, none⟩ = cs[j]?) → o + 6 ≤ 18 → ∀ j v, L[j]? = some v → W.cell? ⟨g, off + o + j, none⟩ = some v := by
    intro o L hL hL6 g off hc ho j v hv
    have hj : j < 6 := by rw [← hL6]; exact (List.getElem?_eq_some_iff.1 hv).1
    rw [← hL, List.getElem?_take, if_pos hj, List.getElem?_drop] at hv
    rw [Nat.add_assoc, hc (o + j) (by omega), hv]
  refine ⟨⟨.mk k0 b0 m0 t0 x0 q0, .mk k1 b1 m1 t1 x1 q1, .mk k2 b2 m2 t2 x2 q2⟩, fun g off hc => ⟨holdsOne_of (part 0 _ e0 rfl g off hc (by omega)) f0 d0, holdsOne_of (part 6 _ e1 rfl g off hc (by omega)) f1 d1, holdsOne_of (part 12 _ e2 rfl g off hc (by omega)) f2 d2⟩⟩
/-- A slice whose elements have size cells each, read element by element. -/
theorem slice_read {W : World} {B n ty ety size : Nat} {L : Value} {y : DataW H × List MemPlace} (hu : Tryz.prog.underlying ty = some (.slice ety)) (hsz : Tryz.prog.cellsOf ety = size) (h0s : 0 < size)
    (h : DataW.trod enc Tryz.prog W 0 (fun _ => true) true n ty [L] = some y) (hB : Rows.uptoBulk y.1 ≤ B) :
    ∃ p len cap, L = .slice p len cap ∧ len ≤ B ∧ (len = 0 ∨ ∃ g off, p = some ⟨g, off, none⟩ ∧ ∀ i, i < len → ∃ n' cs yi, DataW.trod enc Tryz.prog W 0 (fun _ => true) true n' ety cs = some yi ∧ Rows.uptoBulk yi.1 ≤ B ∧ ∀ j, j < size → W.cell? ⟨g, off + i * size + j, none⟩ = cs[j]?) := by
  cases n with
  | zero => simp [DataW.trod] at h
  | succ n0 =>
    rcases DataW.trod_slice hu h with ⟨e, _⟩ | ⟨a, len, cap, elems, rest, n1, hn, e, rfl, hb, hl, hm, hlen, hel, _, _⟩
    · obtain rfl : L = .slice none 0 0 := by simpa using e
      exact ⟨none, 0, 0, rfl, Nat.zero_le _, .inl rfl⟩
    · obtain rfl : L = .slice (some a) len cap := by simpa using e
      rw [hsz] at hel
      have hE1 : Rows.uptoBulkAll (elems.map (·.1)) + Rows.uptoBulkAll (rest.map (·.1)) + 1 ≤ B := hB
      have hE : Rows.uptoBulkAll (elems.map (·.1)) ≤ B := by omega
      have hln : len ≤ B := by
        have := bulk_len (elems.map (·.1))
        simp only [List.length_map] at this
        omega
      have each : ∀ i, i < len → ∃ n' cs yi, DataW.trod enc Tryz.prog W 0 (fun _ => true) true n' ety cs = some yi ∧ Rows.uptoBulk yi.1 ≤ B ∧ ∀ j, j < size → W.cell? ((a.add (i * size)).add j) = cs[j]? ∧ cs.length = size := by
        intro i hi
        have h1 := hel i hi
        have hi' : i < elems.length := by omega
        rw [List.getElem?_eq_getElem hi', Option.bind_eq_some_iff] at h1
        obtain ⟨cs, hcs, hy⟩ := h1
        obtain ⟨c1, c2⟩ := mapM_cells hcs
        exact ⟨_, cs, _, hy, Nat.le_trans (bulk_mem (List.mem_map_of_mem (List.getElem_mem hi'))) hE, fun j hj => ⟨c2 j hj, c1⟩⟩
      refine ⟨some a, len, cap, rfl, hln, ?_⟩
      by_cases h0 : len = 0
      · exact .inl h0
      · right
        have hsp : a.spot = none := by
          obtain ⟨n', cs, yi, _, _, hc⟩ := each 0 (by omega)
          have hc0 := hc 0 h0s
          obtain ⟨z, hz⟩ : ∃ z, cs[0]? = some z := ⟨_, List.getElem?_eq_getElem (by rw [hc0.2]; exact h0s)⟩
          have h0 := hc0.1.trans hz
          cases kk : a.spot with
          | none => rfl
          | some mm =>
            rw [show (a.add (0 * size)).add 0 = a by simp [Addr.add]] at h0
            unfold World.cell? at h0
            rw [kk] at h0
            split at h0 <;> simp at h0
        obtain ⟨g, off, spot⟩ := a
        simp only at hsp
        subst hsp
        refine ⟨g, off, rfl, fun i hi => ?_⟩
        obtain ⟨n', cs, yi, h1, h2, h3⟩ := each i hi
        refine ⟨n', cs, yi, h1, h2, fun j hj => ?_⟩
        have := (h3 j hj).1
        rwa [add_none, add_none] at this
theorem tris_of_trod {W : World} (B : Nat) (hBB : B ≤ 2097152) {n : Nat} {L : Value} {y : DataW H × List MemPlace} (h : DataW.trod enc Tryz.prog W 0 (fun _ => true) true n 22 [L] = some y) (hB : Rows.uptoBulk y.1 ≤ B) :
    ∃ l, Tris W L l ∧ l.length ≤ B := by
  obtain ⟨p, len, cap, rfl, hln, hh⟩ := slice_read (B := B) (size := 18) Tryz.underlying22 (by kernel_rfl) (by omega) h hB
  rcases hh with rfl | ⟨g, off, rfl, each⟩
  · exact ⟨[], ⟨p, cap, rfl, fun e => absurd rfl e⟩, Nat.zero_le _⟩
  · have build : ∀ m, m ≤ len → ∃ l : List Tri3, l.length = m ∧ Holds W g (off + (len - m) * 18) (flat l) := by
      intro m
      induction m with
      | zero => exact fun _ => ⟨[], rfl, by rw [flat_nil]; unfold Holds; trivial⟩
      | succ m ih =>
        intro hm1
        obtain ⟨l, hll, hh⟩ := ih (by omega)
        obtain ⟨n', cs, yi, h1, h2, h3⟩ := each (len - (m + 1)) (by omega)
        obtain ⟨t, ht⟩ := tri_of_trod B hBB h1 h2
        obtain ⟨t1, t2, t3⟩ := ht g _ h3
        refine ⟨t :: l, by simp [hll], ?_⟩
        rw [flat_cons]
        unfold Holds
        refine ⟨t1, ?_⟩
        unfold Holds
        refine ⟨t2, ?_⟩
        unfold Holds
        refine ⟨t3, ?_⟩
        rw [show off + (len - (m + 1)) * 18 + 6 + 6 + 6 = off + (len - m) * 18 by omega]
        exact hh
    obtain ⟨l, hll, hh⟩ := build len (Nat.le_refl _)
    rw [Nat.sub_self, Nat.zero_mul, Nat.add_zero] at hh
    exact ⟨l, ⟨_, cap, by rw [hll], fun _ => ⟨g, off, rfl, hh⟩⟩, by omega⟩
end Go.Proofs.YtanbgdhmfjgihaaGreatDoor

/- All: the triples of a store. -/
namespace Go.Proofs.YtanbgdhmfjgihaaGreatDoor
open Go.RowKit

set_option maxRecDepth 20000 in
theorem step_store18 {ops : Array Oper} {op : Oper} {a : Act} {w : World} {K : Act → World → Prop} {Q : Exit → Act → World → Prop} {E : Prop} (hgd : op.guard = none) (x y : Operand) (g : Nat) (s p o : V6) {c : Array Value} (hg : w.heap[g]? = some (.cells c 41)) (hs : c.size = 18)
    (ho : op.op = .store 41 x y) (hx : a.eval x = .pointer (some ⟨g, 0, none⟩)) (hy : a.eval y = .agg #[.int .i64 s.k, .bool s.b, .int .i64 s.n, .string s.t, .string s.x, .slice s.p s.len s.cap, .int .i64 p.k, .bool p.b, .int .i64 p.n, .string p.t, .string p.x, .slice p.p p.len p.cap, .int .i64 o.k, .bool o.b, .int .i64 o.n, .string o.t, .string o.x, .slice o.p o.len o.cap])
    (h : ∀ w', Only g w w' → Box18 w' g s p o → K (a.put op.dst undef) w') : if Region.wanted op (yielded ops a.tmps) = true then Oper.wp Tryz.prog op a w K Q else E := by
  have hw : Region.wanted op (yielded ops a.tmps) = true := by simp [Region.wanted, hgd]
  rw [if_pos hw]
  unfold Oper.wp execOp
  simp only [ho, hx, hy, Instr.storeAt, Instr.sureAddr, Sem.run_bind, Sem.run_pure, Result.andThen_ok, run_storeVar_row (P := Tryz.prog) w g 41 41 c #[.int .i64 s.k, .bool s.b, .int .i64 s.n, .string s.t, .string s.x, .slice s.p s.len s.cap, .int .i64 p.k, .bool p.b, .int .i64 p.n, .string p.t, .string p.x, .slice p.p p.len p.cap, .int .i64 o.k, .bool o.b, .int .i64 o.n, .string o.t, .string o.x, .slice o.p o.len o.cap] hg (by exact info41) (by rw [hs]; rfl) (by simp [Value.oneCell'])]
  exact h _ (Only.setRow w _) (heap_setRow hg)
set_option maxHeartbeats 6400000 in
set_option maxRecDepth 20000 in
theorem tripleRaw (sp gv ov nv cv a0 a1 a2 : Nat) (e0 e1 e2 : V6) (w : World) (h0 : a0 < nv) (h1 : a1 < nv) (h2 : a2 < nv)
    (k0 : w.cell? ⟨sp, 0, none⟩ = some (.slice (some ⟨gv, ov, none⟩) nv cv)) (r0 : w.rangeAt gv (ov + a0 * 6) [.int .i64 e0.k, .bool e0.b, .int .i64 e0.n, .string e0.t, .string e0.x, .slice e0.p e0.len e0.cap]) (r1 : w.rangeAt gv (ov + a1 * 6) [.int .i64 e1.k, .bool e1.b, .int .i64 e1.n, .string e1.t, .string e1.x, .slice e1.p e1.len e1.cap]) (r2 : w.rangeAt gv (ov + a2 * 6) [.int .i64 e2.k, .bool e2.b, .int .i64 e2.n, .string e2.t, .string e2.x, .slice e2.p e2.len e2.cap])
    (f0 : e0.t.size ≤ 2097152 ∧ e0.x.size ≤ 2097152) (f1 : e1.t.size ≤ 2097152 ∧ e1.x.size ≤ 2097152) (f2 : e2.t.size ≤ 2097152 ∧ e2.x.size ≤ 2097152) :
    Calls Tryz.prog 50 #[.pointer (some ⟨sp, 0, none⟩), .agg #[.int .i64 a0, .int .i64 a1, .int .i64 a2]] w fun e w' => e = .returned (.agg #[.int .i64 e0.k, .bool e0.b, .int .i64 e0.n, .string e0.t, .string e0.x, .slice none 0 0, .int .i64 e1.k, .bool e1.b, .int .i64 e1.n, .string e1.t, .string e1.x, .slice none 0 0, .int .i64 e2.k, .bool e2.b, .int .i64 e2.n, .string e2.t, .string e2.x, .slice none 0 0]) ∧ Below w.heap.size w w' := by
  obtain ⟨W0, hW0⟩ : ∃ W0, W0 = (w.alloc (.cells #[.int .i64 a0, .int .i64 a1, .int .i64 a2] 81)).alloc (.cells #[.int .i64 0, .bool false, .int .i64 0, .string ⟨#[]⟩, .string ⟨#[]⟩, .slice none 0 0, .int .i64 0, .bool false, .int .i64 0, .string ⟨#[]⟩, .string ⟨#[]⟩, .slice none 0 0, .int .i64 0, .bool false, .int .i64 0, .string ⟨#[]⟩, .string ⟨#[]⟩, .slice none 0 0] 41) := ⟨_, rfl⟩
  have b0 : Below w.heap.size w W0 := by rw [hW0]; exact below2 _ _ _
  have A0 : W0.heap[w.heap.size]? = some (.cells #[.int .i64 a0, .int .i64 a1, .int .i64 a2] 81) := by rw [hW0]; exact heap_old _ (heap_new _ _ rfl)
  have B0 : W0.heap[w.heap.size + 1]? = some (.cells #[.int .i64 0, .bool false, .int .i64 0, .string ⟨#[]⟩, .string ⟨#[]⟩, .slice none 0 0, .int .i64 0, .bool false, .int .i64 0, .string ⟨#[]⟩, .string ⟨#[]⟩, .slice none 0 0, .int .i64 0, .bool false, .int .i64 0, .string ⟨#[]⟩, .string ⟨#[]⟩, .slice none 0 0] 41) := by rw [hW0]; exact heap_new _ _ (by simp)
  have HK := Lib.hid (fun W (h : Below w.heap.size w W) => (h.cell (p := ⟨sp, 0, none⟩) (World.block_lt_of_cell? w _ k0)).trans k0)
  have HR0 := Lib.hid (fun W (h : Below w.heap.size w W) => range_below r0 h)
  have HR1 := Lib.hid (fun W (h : Below w.heap.size w W) => range_below r1 h)
  have HR2 := Lib.hid (fun W (h : Below w.heap.size w W) => range_below r2 h)
  have HO0 := Lib.hid (fun W => ownAt e0.k e0.b e0.n e0.t e0.x e0.p e0.len e0.cap W f0.1 f0.2)
  have HO1 := Lib.hid (fun W => ownAt e1.k e1.b e1.n e1.t e1.x e1.p e1.len e1.cap W f1.1 f1.2)
  have HO2 := Lib.hid (fun W => ownAt e2.k e2.b e2.n e2.t e2.x e2.p e2.len e2.cap W f2.1 f2.2)
  have h0i : (a0 : Int) < nv := by omega
  have h1i : (a1 : Int) < nv := by omega
  have h2i : (a2 : Int) < nv := by omega
  have HW := Lib.hid hW0
  clear hW0 k0 r0 r1 r2
  go_enter Tryz.func50, Tryz.ntmps50
  go_upto_region 1 with fail
  rw [← HW.out]
  refine wp_region_held_drew (S := fun W => Below w.heap.size w W ∧ W.heap[w.heap.size]? = some (.cells #[.int .i64 a0, .int .i64 a1, .int .i64 a2] 81)) (by kernel_rfl) ⟨b0.drew, A0⟩ (fun hHeld => ?_)
  replace B0 : W0.drew.heap[w.heap.size + 1]? = some (.cells #[.int .i64 0, .bool false, .int .i64 0, .string ⟨#[]⟩, .string ⟨#[]⟩, .slice none 0 0, .int .i64 0, .bool false, .int .i64 0, .string ⟨#[]⟩, .string ⟨#[]⟩, .slice none 0 0, .int .i64 0, .bool false, .int .i64 0, .string ⟨#[]⟩, .string ⟨#[]⟩, .slice none 0 0] 41) := B0
  refine wpAnyH_take (i := 0) (v := .pointer (some ⟨sp, 0, none⟩)) rfl (by kernel_rfl) (by kernel_rfl) (by kernel_rfl) (fun _ _ _ h => h) (Or.inl ⟨by rfl, fun W _ => by go_simp⟩) hHeld ?_
  try simp only [putS]
  refine wpAnyH_take (i := 1) (v := .pointer (some ⟨sp, 0, none⟩)) rfl (by kernel_rfl) (by kernel_rfl) (by kernel_rfl) (fun _ _ _ h => h) (Or.inl ⟨by rfl, fun W _ => by go_simp⟩) hHeld ?_
  try simp only [putS]
  refine wpAnyH_take (i := 2) (v := .pointer (some ⟨sp, 0, none⟩)) rfl (by kernel_rfl) (by kernel_rfl) (by kernel_rfl) (fun _ _ _ h => h) (Or.inl ⟨by rfl, fun W _ => by go_simp⟩) hHeld ?_
  try simp only [putS]
  refine wpAnyH_take (i := 3) (v := .slice (some ⟨gv, ov, none⟩) nv cv) rfl (by kernel_rfl) (by kernel_rfl) (by kernel_rfl) (fun _ _ _ h => h) (Or.inl ⟨by rfl, fun W h => by have c0 := HK.out W h.1; go_simp⟩) hHeld ?_
  try simp only [putS]
  refine wpAnyH_take (i := 4) (v := .pointer (some ⟨w.heap.size, 0, none⟩)) rfl (by kernel_rfl) (by kernel_rfl) (by kernel_rfl) (fun _ _ _ h => h) (Or.inl ⟨by rfl, fun W _ => by go_simp⟩) hHeld ?_
  try simp only [putS]
  refine wpAnyH_take (i := 5) (v := .int .i64 a0) rfl (by kernel_rfl) (by kernel_rfl) (by kernel_rfl) (fun _ _ _ h => h) (Or.inl ⟨by rfl, fun W h => by have c0 := cell_of h.2 0 (v := .int .i64 a0) rfl; go_simp⟩) hHeld ?_
  try simp only [putS]
  refine wpAnyH_take (i := 6) (v := .pointer (some ⟨gv, ov + a0 * 6, none⟩)) rfl (by kernel_rfl) (by kernel_rfl) (by kernel_rfl) (fun _ _ _ h => h) (Or.inl ⟨by rfl, fun W _ => by go_simp⟩) hHeld ?_
  try simp only [putS]
  refine wpAnyH_take (i := 7) rfl (by kernel_rfl) (by kernel_rfl) (by kernel_rfl) (fun _ _ _ h => h) (yieldsIf_load_mid (by rfl) 39 (.tmp 11) rfl gv (ov + a0 * 6) rfl [.int .i64 e0.k, .bool e0.b, .int .i64 e0.n, .string e0.t, .string e0.x, .slice e0.p e0.len e0.cap] _ (fun W h => HR0.out W h.1) Tryz.underlying39 rfl info28) hHeld ?_
  try simp only [putS]
  refine wpAnyH_take (i := 9) (v := .pointer (some ⟨sp, 0, none⟩)) rfl (by kernel_rfl) (by kernel_rfl) (by kernel_rfl) (fun _ _ _ h => h) (Or.inl ⟨by rfl, fun W _ => by go_simp⟩) hHeld ?_
  try simp only [putS]
  refine wpAnyH_take (i := 10) (v := .pointer (some ⟨sp, 0, none⟩)) rfl (by kernel_rfl) (by kernel_rfl) (by kernel_rfl) (fun _ _ _ h => h) (Or.inl ⟨by rfl, fun W _ => by go_simp⟩) hHeld ?_
  try simp only [putS]
  refine wpAnyH_take (i := 11) (v := .pointer (some ⟨sp, 0, none⟩)) rfl (by kernel_rfl) (by kernel_rfl) (by kernel_rfl) (fun _ _ _ h => h) (Or.inl ⟨by rfl, fun W _ => by go_simp⟩) hHeld ?_
  try simp only [putS]
  refine wpAnyH_take (i := 12) (v := .slice (some ⟨gv, ov, none⟩) nv cv) rfl (by kernel_rfl) (by kernel_rfl) (by kernel_rfl) (fun _ _ _ h => h) (Or.inl ⟨by rfl, fun W h => by have c0 := HK.out W h.1; go_simp⟩) hHeld ?_
  try simp only [putS]
  refine wpAnyH_take (i := 13) (v := .pointer (some ⟨w.heap.size, 1, none⟩)) rfl (by kernel_rfl) (by kernel_rfl) (by kernel_rfl) (fun _ _ _ h => h) (Or.inl ⟨by rfl, fun W _ => by go_simp⟩) hHeld ?_
  try simp only [putS]
  refine wpAnyH_take (i := 14) (v := .int .i64 a1) rfl (by kernel_rfl) (by kernel_rfl) (by kernel_rfl) (fun _ _ _ h => h) (Or.inl ⟨by rfl, fun W h => by have c0 := cell_of h.2 1 (v := .int .i64 a1) rfl; go_simp⟩) hHeld ?_
  try simp only [putS]
  refine wpAnyH_take (i := 15) (v := .pointer (some ⟨gv, ov + a1 * 6, none⟩)) rfl (by kernel_rfl) (by kernel_rfl) (by kernel_rfl) (fun _ _ _ h => h) (Or.inl ⟨by rfl, fun W _ => by go_simp⟩) hHeld ?_
  try simp only [putS]
  refine wpAnyH_take (i := 16) rfl (by kernel_rfl) (by kernel_rfl) (by kernel_rfl) (fun _ _ _ h => h) (yieldsIf_load_mid (by rfl) 39 (.tmp 20) rfl gv (ov + a1 * 6) rfl [.int .i64 e1.k, .bool e1.b, .int .i64 e1.n, .string e1.t, .string e1.x, .slice e1.p e1.len e1.cap] _ (fun W h => HR1.out W h.1) Tryz.underlying39 rfl info28) hHeld ?_
  try simp only [putS]
  refine wpAnyH_take (i := 18) (v := .pointer (some ⟨sp, 0, none⟩)) rfl (by kernel_rfl) (by kernel_rfl) (by kernel_rfl) (fun _ _ _ h => h) (Or.inl ⟨by rfl, fun W _ => by go_simp⟩) hHeld ?_
  try simp only [putS]
  refine wpAnyH_take (i := 19) (v := .pointer (some ⟨sp, 0, none⟩)) rfl (by kernel_rfl) (by kernel_rfl) (by kernel_rfl) (fun _ _ _ h => h) (Or.inl ⟨by rfl, fun W _ => by go_simp⟩) hHeld ?_
  try simp only [putS]
  refine wpAnyH_take (i := 20) (v := .pointer (some ⟨sp, 0, none⟩)) rfl (by kernel_rfl) (by kernel_rfl) (by kernel_rfl) (fun _ _ _ h => h) (Or.inl ⟨by rfl, fun W _ => by go_simp⟩) hHeld ?_
  try simp only [putS]
  refine wpAnyH_take (i := 21) (v := .slice (some ⟨gv, ov, none⟩) nv cv) rfl (by kernel_rfl) (by kernel_rfl) (by kernel_rfl) (fun _ _ _ h => h) (Or.inl ⟨by rfl, fun W h => by have c0 := HK.out W h.1; go_simp⟩) hHeld ?_
  try simp only [putS]
  refine wpAnyH_take (i := 22) (v := .pointer (some ⟨w.heap.size, 2, none⟩)) rfl (by kernel_rfl) (by kernel_rfl) (by kernel_rfl) (fun _ _ _ h => h) (Or.inl ⟨by rfl, fun W _ => by go_simp⟩) hHeld ?_
  try simp only [putS]
  refine wpAnyH_take (i := 23) (v := .int .i64 a2) rfl (by kernel_rfl) (by kernel_rfl) (by kernel_rfl) (fun _ _ _ h => h) (Or.inl ⟨by rfl, fun W h => by have c0 := cell_of h.2 2 (v := .int .i64 a2) rfl; go_simp⟩) hHeld ?_
  try simp only [putS]
  refine wpAnyH_take (i := 24) (v := .pointer (some ⟨gv, ov + a2 * 6, none⟩)) rfl (by kernel_rfl) (by kernel_rfl) (by kernel_rfl) (fun _ _ _ h => h) (Or.inl ⟨by rfl, fun W _ => by go_simp⟩) hHeld ?_
  try simp only [putS]
  refine wpAnyH_take (i := 25) rfl (by kernel_rfl) (by kernel_rfl) (by kernel_rfl) (fun _ _ _ h => h) (yieldsIf_load_mid (by rfl) 39 (.tmp 29) rfl gv (ov + a2 * 6) rfl [.int .i64 e2.k, .bool e2.b, .int .i64 e2.n, .string e2.t, .string e2.x, .slice e2.p e2.len e2.cap] _ (fun W h => HR2.out W h.1) Tryz.underlying39 rfl info28) hHeld ?_
  try simp only [putS]
  refine wpAnyH_ready (rs := [8]) (by kernel_rfl) (by simp) ?_
  refine AllReadyH.cons rfl (fun K hK => ?_) AllReadyH.nil
  rw [if_pos (by rfl)]
  go_simp
  refine (HO0.out _).mono ?_
  rintro e0 w3 ⟨rfl, hb3⟩
  have hHeld1 : _ ∧ _ := ⟨below_any hHeld.1 hb3 hHeld.1.size, (hb3.block w.heap.size (lt_of_heap hHeld.2)).trans hHeld.2⟩
  replace B0 := (hb3.block _ (lt_of_heap B0)).trans B0
  clear hb3 hHeld
  refine hK.out _ _ hHeld1 (fun hHeld1 => ?_)
  clear hK K
  try simp only [putS]
  refine wpAnyH_ready (rs := [17]) (by kernel_rfl) (by simp) ?_
  refine AllReadyH.cons rfl (fun K hK => ?_) AllReadyH.nil
  rw [if_pos (by rfl)]
  go_simp
  refine (HO1.out _).mono ?_
  rintro e0 w3 ⟨rfl, hb3⟩
  have hHeld2 : _ ∧ _ := ⟨below_any hHeld1.1 hb3 hHeld1.1.size, (hb3.block w.heap.size (lt_of_heap hHeld1.2)).trans hHeld1.2⟩
  replace B0 := (hb3.block _ (lt_of_heap B0)).trans B0
  clear hb3 hHeld1
  refine hK.out _ _ hHeld2 (fun hHeld2 => ?_)
  clear hK K
  try simp only [putS]
  refine wpAnyH_ready (rs := [26]) (by kernel_rfl) (by simp) ?_
  refine AllReadyH.cons rfl (fun K hK => ?_) AllReadyH.nil
  rw [if_pos (by rfl)]
  go_simp
  refine (HO2.out _).mono ?_
  rintro e0 w3 ⟨rfl, hb3⟩
  have hHeld3 : _ ∧ _ := ⟨below_any hHeld2.1 hb3 hHeld2.1.size, (hb3.block w.heap.size (lt_of_heap hHeld2.2)).trans hHeld2.2⟩
  replace B0 := (hb3.block _ (lt_of_heap B0)).trans B0
  clear hb3 hHeld2
  refine hK.out _ _ hHeld3 (fun hHeld3 => ?_)
  clear hK K
  try simp only [putS]
  refine wpAnyH_take (i := 27) (v := .agg #[.int .i64 e0.k, .bool e0.b, .int .i64 e0.n, .string e0.t, .string e0.x, .slice none 0 0, .int .i64 e1.k, .bool e1.b, .int .i64 e1.n, .string e1.t, .string e1.x, .slice none 0 0, .int .i64 e2.k, .bool e2.b, .int .i64 e2.n, .string e2.t, .string e2.x, .slice none 0 0]) rfl (by kernel_rfl) (by kernel_rfl) (by kernel_rfl) (fun _ _ _ h => h) (Or.inl ⟨by rfl, fun W _ => by go_simp⟩) hHeld3 ?_
  try simp only [putS]
  refine wpAnyH_ready (rs := [28]) (by kernel_rfl) (by simp) ?_
  refine AllReadyH.cons rfl (fun K hK => ?_) AllReadyH.nil
  refine step_store18 rfl (.tmp 4) (.tmp 32) (w.heap.size + 1) ⟨e0.k, e0.b, e0.n, e0.t, e0.x, none, 0, 0⟩ ⟨e1.k, e1.b, e1.n, e1.t, e1.x, none, 0, 0⟩ ⟨e2.k, e2.b, e2.n, e2.t, e2.x, none, 0, 0⟩ B0 rfl rfl rfl rfl ?_
  intro w5 ho5 hB5
  have hHeld4 : _ ∧ _ := ⟨below_only hHeld3.1 ho5 (Nat.le_succ _) hHeld3.1.size, (ho5.block w.heap.size (lt_of_heap hHeld3.2) (by omega)).trans hHeld3.2⟩
  refine hK.out _ _ hHeld4 (fun _ => ?_)
  clear hK K
  try simp only [putS]
  refine wpAnyH_done (by kernel_rfl) ?_ _
  go_wp2_with fail
  exact bodyPost_ret (v := .agg #[.int .i64 e0.k, .bool e0.b, .int .i64 e0.n, .string e0.t, .string e0.x, .slice none 0 0, .int .i64 e1.k, .bool e1.b, .int .i64 e1.n, .string e1.t, .string e1.x, .slice none 0 0, .int .i64 e2.k, .bool e2.b, .int .i64 e2.n, .string e2.t, .string e2.x, .slice none 0 0]) (results_cell_row (p := 4) (ty := 41) Tryz.results50 _ _ (w.heap.size + 1) 41 _ (0, 0) _ rfl hB5 Tryz.underlying41 rfl (by exact info41)) rfl ⟨rfl, hHeld4.1⟩
/-- A row's triple. -/
def SM.tri (s : SM) (r : R3) : Tri3 := ⟨(s.vs[r.a]?).getD nulV, (s.vs[r.b]?).getD nulV, (s.vs[r.c]?).getD nulV⟩
def SM.all (s : SM) : List Tri3 := s.rs.map s.tri
/-- A value of a store, in cells. -/
theorem storeVal {W : World} {s : SM} {pv : Option Addr} (hv : ValsAt W pv s.vs) (hp : ∀ u ∈ s.vs, Plain u) (m : Nat) (hm : m < s.vs.length) : ∃ gv ov, pv = some ⟨gv, ov, none⟩ ∧ ∃ v : V6, ∃ e : VE, e.v = ⟨v.k, v.b, v.n, v.t, v.x, none, 0, 0⟩ ∧ e.val = (s.vs[m]?).getD nulV ∧ W.rangeAt gv (ov + m * 6) [.int .i64 v.k, .bool v.b, .int .i64 v.n, .string v.t, .string v.x, .slice v.p v.len v.cap] ∧ v.t.size ≤ 2097152 ∧ v.x.size ≤ 2097152 := by
  have hne : s.vs ≠ [] := by intro e; rw [e] at hm; exact absurd hm (by simp)
  obtain ⟨gv, ov, e, hh⟩ := hv hne
  obtain ⟨v, q2, hi, hr⟩ := isOf (Holds.at_ s.vs ov hh m hm)
  obtain ⟨ee, he, hval⟩ := hi.plain (hp _ (List.getElem_mem hm))
  obtain ⟨⟨k, b, n, t, x, p, len, cap⟩, h0, hf⟩ := ee
  simp only at he
  subst he
  refine ⟨gv, ov, e, _, ⟨⟨k, b, n, t, x, none, 0, 0⟩, rfl, hf⟩, rfl, ?_, hr, hi.hf.ht, hi.hf.hx⟩
  rw [List.getElem?_eq_getElem hm, Option.getD_some, ← hval]
  rfl
theorem wpList_loadV3 {ops : Array Oper} {rest : List Oper} {o : Oper} {a : Act} {w : World} {Q : Exit → Act → World → Prop} (x : Operand) (g : Nat) (a0 a1 a2 : Int) (hg : w.heap[g]? = some (.cells #[.int .i64 a0, .int .i64 a1, .int .i64 a2] 81))
    (hgd : o.guard = none) (ho : o.op = .load 81 x) (hx : a.eval x = .pointer (some ⟨g, 0, none⟩))
    (h : wpList Tryz.prog ops Q rest (a.put o.dst (.agg #[.int .i64 a0, .int .i64 a1, .int .i64 a2])) w) : wpList Tryz.prog ops Q (o :: rest) a w :=
  wpList_load_row hgd 81 x ho g hx 81 _ (0, 0) _ hg Tryz.underlying81 rfl info81 h
theorem wpList_midV3 {ops : Array Oper} {rest : List Oper} {o : Oper} {a : Act} {w : World} {Q : Exit → Act → World → Prop} (x : Operand) (g off : Nat) (a0 a1 a2 : Int) (hr : w.rangeAt g off [.int .i64 a0, .int .i64 a1, .int .i64 a2])
    (hgd : o.guard = none) (ho : o.op = .load 81 x) (hx : a.eval x = .pointer (some ⟨g, off, none⟩))
    (h : wpList Tryz.prog ops Q rest (a.put o.dst (.agg #[.int .i64 a0, .int .i64 a1, .int .i64 a2])) w) : wpList Tryz.prog ops Q (o :: rest) a w :=
  wpList_load_mid hgd 81 x ho g off hx [.int .i64 a0, .int .i64 a1, .int .i64 a2] _ hr Tryz.underlying81 rfl info81 h
theorem wpList_storeV3 {ops : Array Oper} {rest : List Oper} {op : Oper} {a : Act} {w : World} {Q : Exit → Act → World → Prop} (x y : Operand) (g : Nat) (a0 a1 a2 : Int) {c : Array Value} (hg : w.heap[g]? = some (.cells c 81)) (hs : c.size = 3)
    (hgd : op.guard = none) (ho : op.op = .store 81 x y) (hx : a.eval x = .pointer (some ⟨g, 0, none⟩)) (hy : a.eval y = .agg #[.int .i64 a0, .int .i64 a1, .int .i64 a2])
    (h : ∀ w', Only g w w' → w'.heap[g]? = some (.cells #[.int .i64 a0, .int .i64 a1, .int .i64 a2] 81) → wpList Tryz.prog ops Q rest (a.put op.dst undef) w') : wpList Tryz.prog ops Q (op :: rest) a w :=
  wpList_plain hgd fun _ hK => by
    unfold Oper.wp execOp
    simp only [ho, hx, hy, Instr.storeAt, Instr.sureAddr, Sem.run_bind, Sem.run_pure, Result.andThen_ok, run_storeVar_row (P := Tryz.prog) w g 81 81 c #[.int .i64 a0, .int .i64 a1, .int .i64 a2] hg (by exact info81) (by rw [hs]; rfl) (by simp [Value.oneCell'])]
    exact hK _ _ (h _ (Only.setRow w _) (heap_setRow hg))
def GA (W0 : World) (s : SM) (j : Nat) (V : Value) (wr : World) : Prop := ∃ d : List VE, d.map VE.val = flat (s.all.take j) ∧ wr.ownsRow W0.heap.size 41 18 V j (d.flatMap VE.enc) ∧ Below W0.heap.size W0 wr
theorem info41b : (Tryz.prog.info? 41).map (fun i => (i.zero, i.size, i.bytes)) = some (some (.agg #[.int .i64 0, .bool false, .int .i64 0, .string ⟨#[]⟩, .string ⟨#[]⟩, .slice none 0 0, .int .i64 0, .bool false, .int .i64 0, .string ⟨#[]⟩, .string ⟨#[]⟩, .slice none 0 0, .int .i64 0, .bool false, .int .i64 0, .string ⟨#[]⟩, .string ⟨#[]⟩, .slice none 0 0]), 18, 240) := by kernel_rfl
/-- The triples, told. -/
def AllPost (w : World) (s : SM) (e : Ending) (w' : World) : Prop := ∃ L, e = .returned L ∧ Tris w' L s.all ∧ Below w.heap.size w w' ∧ ∀ g, L.ownBlock = some g → w.heap.size ≤ g
set_option maxHeartbeats 6400000 in
set_option maxRecDepth 20000 in
theorem allAt (sp : Nat) (s : SM) (pv pr : Option Addr) (cv cr : Nat) (pp : Nat → Option Addr) (cc : Nat → Nat) (w : World) (h : StoreIs w sp s pv pr cv cr pp cc) (ok : SMok s) (hp : ∀ u ∈ s.vs, Plain u) (hn : s.rs.length ≤ 2097152) :
    Calls Tryz.prog 15 #[.pointer (some ⟨sp, 0, none⟩)] w (AllPost w s) := by
  obtain ⟨i0, hi, hz0, hz1, hz2⟩ := info_parts info41b
  obtain ⟨n, hnn⟩ : ∃ n, n = s.rs.length := ⟨_, rfl⟩
  have c1 : w.cell? ⟨sp, 1, none⟩ = some (.slice pr n cr) := by rw [hnn]; exact cell_of h.h 1 rfl
  have HN := Lib.hid hnn
  have HS := Lib.hid h
  have HP := Lib.hid hp
  have HOK := Lib.hid ok
  rw [← hnn] at hn
  clear h hp ok hnn
  go_enter Tryz.func15, Tryz.ntmps15
  go_wp2_with fail
  clear c1
  go_loopg [3, 11] n (fun gg s3 s11 wr => ∃ (j : Nat) (V : Value), V = s3 ∧ j + gg = n ∧ s11 = .int .i64 j ∧ Hid (GA w s j V wr))
  case atStart => exact ⟨0, _, rfl, by omega, rfl, Lib.hid ⟨[], rfl, World.ownsRow_nil _ _ _ _, Below.refl _ _⟩⟩
  case round =>
    obtain ⟨j, V, rfl, hjg, rfl, HA⟩ := hrel
    by_cases hlt : (j : Int) < n
    · have hj1 : j < s.rs.length := by have := HN.out; omega
      obtain ⟨d, hd, hown, hbel⟩ := HA.out
      have hsw := HS.out
      have hne : s.rs ≠ [] := by intro e; rw [e] at hj1; exact absurd hj1 (by simp)
      obtain ⟨gr, fr, rfl, hrr⟩ := hsw.r hne
      have ra := range_below (hrr j hj1) hbel
      have hrow := HOK.out.r _ (List.getElem_mem hj1)
      obtain ⟨a0, ha0⟩ : ∃ a, a = s.rs[j].a := ⟨_, rfl⟩
      obtain ⟨a1, ha1⟩ : ∃ a, a = s.rs[j].b := ⟨_, rfl⟩
      obtain ⟨a2, ha2⟩ : ∃ a, a = s.rs[j].c := ⟨_, rfl⟩
      rw [← ha0, ← ha1, ← ha2] at ra hrow
      have hvb := hsw.v.below hbel
      obtain ⟨gv, ov, rfl, e0, x0, hx0, hv0, q0, f0, g0⟩ := storeVal hvb HP.out a0 hrow.1
      obtain ⟨gv', ov', ee, e1, x1, hx1, hv1, q1, f1, g1⟩ := storeVal hvb HP.out a1 hrow.2.1
      obtain ⟨rfl, rfl⟩ : gv = gv' ∧ ov = ov' := by injection ee with ee; injection ee with e1 e2 _; exact ⟨e1, e2⟩
      obtain ⟨gv', ov', ee, e2, x2, hx2, hv2, q2, f2, g2⟩ := storeVal hvb HP.out a2 hrow.2.2
      obtain ⟨rfl, rfl⟩ : gv = gv' ∧ ov = ov' := by injection ee with ee; injection ee with e1 e2 _; exact ⟨e1, e2⟩
      have k0 : wr.cell? ⟨sp, 0, none⟩ = some (.slice (some ⟨gv, ov, none⟩) s.vs.length cv) := (hbel.cell (p := ⟨sp, 0, none⟩) (World.block_lt_of_cell? w _ (cell_of hsw.h 0 rfl))).trans (cell_of hsw.h 0 rfl)
      have htri : flat [s.tri s.rs[j]] = [x0.val, x1.val, x2.val] := by
        unfold SM.tri
        rw [flat_cons, flat_nil, hv0, hv1, hv2, ha0, ha1, ha2]
      have hc : ∀ W, Below wr.heap.size wr W → Calls Tryz.prog 50 #[.pointer (some ⟨sp, 0, none⟩), .agg #[.int .i64 a0, .int .i64 a1, .int .i64 a2]] W fun e w' => e = .returned (.agg #[.int .i64 e0.k, .bool e0.b, .int .i64 e0.n, .string e0.t, .string e0.x, .slice none 0 0, .int .i64 e1.k, .bool e1.b, .int .i64 e1.n, .string e1.t, .string e1.x, .slice none 0 0, .int .i64 e2.k, .bool e2.b, .int .i64 e2.n, .string e2.t, .string e2.x, .slice none 0 0]) ∧ Below W.heap.size W w' := fun W hb =>
        tripleRaw sp gv ov s.vs.length cv a0 a1 a2 e0 e1 e2 W hrow.1 hrow.2.1 hrow.2.2 ((hb.cell (p := ⟨sp, 0, none⟩) (World.block_lt_of_cell? wr _ k0)).trans k0) (range_below q0 hb) (range_below q1 hb) (range_below q2 hb) ⟨f0, g0⟩ ⟨f1, g1⟩ ⟨f2, g2⟩
      have HC := Lib.hid hc
      have HX := Lib.hid (And.intro hd (And.intro hown (And.intro hbel (And.intro htri (And.intro hx0 (And.intro hx1 hx2))))))
      clear hc hd hown hbel htri hx0 hx1 hx2 hv0 hv1 hv2 q0 q1 q2 hvb hsw hrr k0 HA ee hrow ha0 ha1 ha2 hne
      go_upto_region 5 with (first
        | ((with_reducible refine wpList_midV3 (.tmp 13) gr (fr + j * 3) a0 a1 a2 ra ?_ ?_ ?_ ?_); rfl; rfl; rfl)
        | ((with_reducible refine wpList_storeV3 (.tmp 5) (.tmp 14) wr.heap.size a0 a1 a2 (heap_new _ _ rfl) rfl ?_ ?_ ?_ ?_ ?_); rfl; rfl; rfl; rfl; intro wX hoX BX))
      have bX : Below wr.heap.size wr wX := below_only (below1 wr _) hoX (Nat.le_refl _) (by simp)
      have hownX := own_below HX.out.2.1 bX
      have hbs := HX.out.2.2.1.size
      have hfs := bX.size
      have HBX := Lib.hid bX
      have HCX := Lib.hid (HC.out wX bX)
      clear hoX ra bX HC
      go_wp2_with (first
        | ((with_reducible refine wpList_loadV3 (.tmp 5) wr.heap.size a0 a1 a2 BX ?_ ?_ ?_ ?_); rfl; rfl; rfl)
        | (go_at_call 50; (with_reducible refine HCX.out.mono ?_); rintro e w4 ⟨rfl, hb4⟩
           have hown4 := own_below hownX hb4
           have hs4 := hb4.size
           have HB4 := Lib.hid hb4
           clear hb4)
        | (at_builtin; refine wpList_append_own_at _ rfl _ _ 22 rfl w.heap.size 41 i0 (.agg #[.int .i64 0, .bool false, .int .i64 0, .string ⟨#[]⟩, .string ⟨#[]⟩, .slice none 0 0, .int .i64 0, .bool false, .int .i64 0, .string ⟨#[]⟩, .string ⟨#[]⟩, .slice none 0 0, .int .i64 0, .bool false, .int .i64 0, .string ⟨#[]⟩, .string ⟨#[]⟩, .slice none 0 0]) 18 240 Tryz.underlying22 hi hz0 hz1 hz2 rfl (by decide) _ _ _ rfl (hown4.alloc _) ⟨w4.heap.size, 0, none⟩ 1 1 [.int .i64 e0.k, .bool e0.b, .int .i64 e0.n, .string e0.t, .string e0.x, .slice none 0 0, .int .i64 e1.k, .bool e1.b, .int .i64 e1.n, .string e1.t, .string e1.x, .slice none 0 0, .int .i64 e2.k, .bool e2.b, .int .i64 e2.n, .string e2.t, .string e2.x, .slice none 0 0] rfl rfl (cell_18_new _ ⟨e0.k, e0.b, e0.n, e0.t, e0.x, none, 0, 0⟩ ⟨e1.k, e1.b, e1.n, e1.t, e1.x, none, 0, 0⟩ ⟨e2.k, e2.b, e2.n, e2.t, e2.x, none, 0, 0⟩ _) ?_ ?_ ?_ ?_ ?_))
      all_goals (try (first | (unfold maxLen; omega) | omega | (simp; omega) | (intro u hu; simp only [List.mem_cons, List.mem_nil_iff, or_false] at hu; rcases hu with rfl | rfl | rfl | rfl | rfl | rfl | rfl | rfl | rfl | rfl | rfl | rfl | rfl | rfl | rfl | rfl | rfl | rfl <;> rfl)))
      intro v' w1 hown' hgrow _ hloc
      have acc : GA w s (j + 1) v' w1 := by
        obtain ⟨hd, hown, hbel, htri, hx0, hx1, hx2⟩ := HX.out
        refine ⟨d ++ [x0, x1, x2], ?_, ?_, ?_⟩
        · have hj2 : j < s.all.length := by unfold SM.all; simpa using hj1
          rw [List.take_succ_eq_append_getElem hj2, List.map_append, hd]
          have e : s.all[j] = s.tri s.rs[j] := List.getElem_map s.tri
          rw [e]
          unfold flat at htri ⊢
          rw [List.flatMap_append, htri]
          rfl
        · rw [List.flatMap_append]
          have e : [x0, x1, x2].flatMap VE.enc = [.int .i64 e0.k, .bool e0.b, .int .i64 e0.n, .string e0.t, .string e0.x, .slice none 0 0, .int .i64 e1.k, .bool e1.b, .int .i64 e1.n, .string e1.t, .string e1.x, .slice none 0 0, .int .i64 e2.k, .bool e2.b, .int .i64 e2.n, .string e2.t, .string e2.x, .slice none 0 0] := by
            simp [VE.enc, hx0, hx1, hx2]
          rw [e]
          exact hown'
        · exact (((hbel.trans (HBX.out.mono hbs)).trans (HB4.out.mono (by omega))).alloc (by omega) _).grown hgrow (by simp; omega) (fun g hg => (hown.lt g hg).1)
      have ACC := Lib.hid acc
      clear acc hown' hgrow hloc hownX hown4 HX HBX HB4 HCX
      go_wp2_with fail
      go_roundg (gk - 1)
      case measure => omega
      case rel => exact ⟨j + 1, _, rfl, by omega, by go_num, ACC⟩
    · have hjn : j = s.all.length := by have := HN.out; unfold SM.all; rw [List.length_map]; omega
      have hfin : AllPost w s (.returned V) wr := by
        obtain ⟨d, hd, hown, hbel⟩ := HA.out
        rw [hjn, List.take_length] at hd
        refine ⟨V, rfl, ?_, hbel, fun g hg => (hown.lt g hg).1⟩
        rcases hown.2 with ⟨rfl, h0⟩ | ⟨g, cap, cur, rfl, hg, hh, _⟩
        · exact ⟨none, 0, by rw [← hjn, h0], fun hne => absurd (List.length_eq_zero_iff.1 (by omega)) hne⟩
        · refine ⟨some ⟨g, 0, none⟩, cap, by rw [hjn], fun _ => ⟨g, 0, rfl, ?_⟩⟩
          rw [← hd]
          refine holds_of_cells wr g d 0 fun t u hu => ?_
          have ht : t < j * 18 := by
            have := (List.getElem?_eq_some_iff.1 hu).1
            rw [hown.1] at this
            exact this
          rw [Nat.zero_add, hown.cellAt t ht]
          exact hu
      have HF := Lib.hid hfin
      clear hfin HA
      go_wp2_with fail
      go_ret
      exact HF.out
end Go.Proofs.YtanbgdhmfjgihaaGreatDoor

/- once: two lists of the same triples, in whatever order. -/
namespace Go.Proofs.YtanbgdhmfjgihaaGreatDoor
open Go.RowKit

theorem same_plain {u v : Val} (hu : Plain u) (hv : Plain v) : sameP u v = true ↔ u = v := by
  obtain ⟨k, b, n, t, x, rfl⟩ := hu
  obtain ⟨k2, b2, n2, t2, x2, rfl⟩ := hv
  rw [sameP]
  constructor
  · intro h
    simp only [Bool.and_eq_true, beq_iff_eq] at h
    obtain ⟨h1, h2, h3, h4, h5, _⟩ := h
    have e4 : t = t2 := bytes_ext (by rw [← toList_eq, ← toList_eq]; exact h4)
    have e5 : x = x2 := bytes_ext (by rw [← toList_eq, ← toList_eq]; exact h5)
    rw [h1, h2, h3, e4, e5]
  · intro h
    injection h with h1 h2 h3 h4 h5 _
    rw [h1, h2, h3, h4, h5]
    simp [eachSame]
end Go.Proofs.YtanbgdhmfjgihaaGreatDoor

/- A triple of values in an order of parts. -/
namespace Go.Proofs.YtanbgdhmfjgihaaGreatDoor
open Go.RowKit

theorem info63 : (Tryz.prog.info? 63).map (·.size) = some 18 := by kernel_rfl
/-- Three values in a block of their own. -/
def Way (W : World) (g : Nat) (a b c : V6) : Prop := W.heap[g]? = some (.cells #[.int .i64 a.k, .bool a.b, .int .i64 a.n, .string a.t, .string a.x, .slice a.p a.len a.cap, .int .i64 b.k, .bool b.b, .int .i64 b.n, .string b.t, .string b.x, .slice b.p b.len b.cap, .int .i64 c.k, .bool c.b, .int .i64 c.n, .string c.t, .string c.x, .slice c.p c.len c.cap] 63)
section
variable {w w' : World} {g e : Nat} {a b c : V6}
theorem Way.below (h : Way w g a b c) (k : Below w.heap.size w w') : Way w' g a b c := (k.block g (lt_of_heap h)).trans h
theorem Way.only (h : Way w g a b c) (k : Only e w w') (d : g ≠ e) : Way w' g a b c := (k.block g (lt_of_heap h) d).trans h
theorem Way.r0 (h : Way w g a b c) : w.rangeAt g 0 [.int .i64 a.k, .bool a.b, .int .i64 a.n, .string a.t, .string a.x, .slice a.p a.len a.cap] := fun i v hv => by
  have hi : i < 6 := (List.getElem?_eq_some_iff.1 hv).1
  match i, hi with
  | 0, _ | 1, _ | 2, _ | 3, _ | 4, _ | 5, _ => exact cell_of h _ hv
theorem Way.r1 (h : Way w g a b c) : w.rangeAt g 6 [.int .i64 b.k, .bool b.b, .int .i64 b.n, .string b.t, .string b.x, .slice b.p b.len b.cap] := fun i v hv => by
  have hi : i < 6 := (List.getElem?_eq_some_iff.1 hv).1
  match i, hi with
  | 0, _ | 1, _ | 2, _ | 3, _ | 4, _ | 5, _ => exact cell_of h _ hv
theorem Way.r2 (h : Way w g a b c) : w.rangeAt g 12 [.int .i64 c.k, .bool c.b, .int .i64 c.n, .string c.t, .string c.x, .slice c.p c.len c.cap] := fun i v hv => by
  have hi : i < 6 := (List.getElem?_eq_some_iff.1 hv).1
  match i, hi with
  | 0, _ | 1, _ | 2, _ | 3, _ | 4, _ | 5, _ => exact cell_of h _ hv
theorem Way.r18 (h : Way w g a b c) : w.rangeAt g 0 [.int .i64 a.k, .bool a.b, .int .i64 a.n, .string a.t, .string a.x, .slice a.p a.len a.cap, .int .i64 b.k, .bool b.b, .int .i64 b.n, .string b.t, .string b.x, .slice b.p b.len b.cap, .int .i64 c.k, .bool c.b, .int .i64 c.n, .string c.t, .string c.x, .slice c.p c.len c.cap] := fun i v hv => by
  rw [Nat.zero_add]
  exact cell_of h i (by simpa using hv)
end
end Go.Proofs.YtanbgdhmfjgihaaGreatDoor
