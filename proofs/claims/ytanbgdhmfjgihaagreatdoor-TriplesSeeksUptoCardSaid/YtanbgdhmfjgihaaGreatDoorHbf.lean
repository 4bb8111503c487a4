/- Texts of one kind, one behind the other: each says ahead of itself what it shows. -/
import Derived.Test.YtanbgdhmfjgihaaGreatDoorHbe
/- What a law's script holds: its triples, and what is asked of a cursor. -/
namespace Go.Proofs.YtanbgdhmfjgihaaGreatDoor
open Go.RowKit Go.ChangeShapes
variable {H : Type} {enc : TypeId × Value → H}

/-- A value's cells, read. -/
theorem one_of_trod {W : World} (B : Nat) (hBB : B ≤ 2097152) {n : Nat} {cs : List Value} {y : DataW H × List MemPlace} (h : DataW.trod enc Tryz.prog W 0 (fun _ => true) true n 39 cs = some y) (hB : Rows.uptoBulk y.1 ≤ B) :
    ∃ k b m t x q p, cs = [.int .i64 k, .bool b, .int .i64 m, .string t, .string x, p] ∧ Fine m t x (List.length (α := Val) q) ∧ Held W p q := by
  obtain ⟨n', k, b, m, t, x, L, yl, rfl, rfl, hp, ht, hx, hpl, wm⟩ := value_of_trod h
  obtain ⟨l, hheld, hll⟩ := vals_of_trod B hBB n' n' (Nat.le_refl _) L yl hp (by omega)
  obtain ⟨w1, w2⟩ := i64_wf wm
  exact ⟨k, b, m, t, x, l, L, rfl, ⟨by omega, by omega, by omega, w1, w2⟩, hheld⟩
theorem holdsOne_of {W : World} {g off : Nat} {k : Int} {b : Bool} {m : Int} {t x : ByteArray} {q : List Val} {p : Value} (hc : ∀ j v, [Value.int .i64 k, .bool b, .int .i64 m, .string t, .string x, p][j]? = some v → W.cell? ⟨g, off + j, none⟩ = some v) (hf : Fine m t x q.length) (hp : Held W p q) : HoldsOne W g off (.mk k b m t x q) := by
  unfold HoldsOne
  exact ⟨hc 0 _ rfl, hc 1 _ rfl, hc 2 _ rfl, hc 3 _ rfl, hc 4 _ rfl, hf, p, hc 5 _ rfl, hp⟩
/-- A triple's cells, read. -/
theorem tri_of_trod {W : World} (B : Nat) (hBB : B ≤ 2097152) {n : Nat} {cs : List Value} {y : DataW H × List MemPlace} (h : DataW.trod enc Tryz.prog W 0 (fun _ => true) true n 41 cs = some y) (hB : Rows.uptoBulk y.1 ≤ B) :
    ∃ t : Tri3, ∀ g off, (∀ j, j < 18 → W.cell? ⟨g, off + j, none⟩ = cs[j]?) → HoldsOne W g off t.s ∧ HoldsOne W g (off + 6) t.p ∧ HoldsOne W g (off + 12) t.o := by
  obtain ⟨xs, n', rfl, rfl, hl, hlen, hf⟩ := DataW.trod_struct Tryz.underlying41 h
  have hl18 : cs.length = 18 := hl.trans (by kernel_rfl : Tryz.prog.cellsOf 41 = 18)
  have hlen3 : xs.length = 3 := hlen.trans rfl
  obtain ⟨y0, y1, y2, rfl⟩ : ∃ a b c, xs = [a, b, c] := by
    match xs, hlen3 with
    | [a, b, c], _ => exact ⟨a, b, c, rfl⟩
  have e6 : Tryz.prog.cellsOf 39 = 6 := by kernel_rfl
  have h0 : DataW.trod enc Tryz.prog W 0 (fun _ => true) true n' 39 ((cs.drop 0).take (Tryz.prog.cellsOf 39)) = [y0, y1, y2][0]? := hf 0 _ rfl
  have h1 : DataW.trod enc Tryz.prog W 0 (fun _ => true) true n' 39 ((cs.drop 6).take (Tryz.prog.cellsOf 39)) = [y0, y1, y2][1]? := hf 1 _ rfl
  have h2 : DataW.trod enc Tryz.prog W 0 (fun _ => true) true n' 39 ((cs.drop 12).take (Tryz.prog.cellsOf 39)) = [y0, y1, y2][2]? := hf 2 _ rfl
  rw [e6] at h0 h1 h2
  have hall : Rows.uptoBulk y0.1 + (Rows.uptoBulk y1.1 + (Rows.uptoBulk y2.1 + 0)) + 1 ≤ B := hB
  obtain ⟨k0, b0, m0, t0, x0, q0, p0, e0, f0, d0⟩ := one_of_trod B hBB h0 (by omega)
  obtain ⟨k1, b1, m1, t1, x1, q1, p1, e1, f1, d1⟩ := one_of_trod B hBB h1 (by omega)
  obtain ⟨k2, b2, m2, t2, x2, q2, p2, e2, f2, d2⟩ := one_of_trod B hBB h2 (by omega)
  have part : ∀ (o : Nat) (L : List Value), (cs.drop o).take 6 = L → L.length = 6 → ∀ g off, (∀ j, j < 18 → W.cell? ⟨g, off + j, none⟩ = cs[j]?) → o + 6 ≤ 18 → ∀ j v, L[j]? = some v → W.cell? ⟨g, off + o + j, none⟩ = some v := by
    intro o L hL hL6 g off hc ho j v hv
    have hj : j < 6 := by rw [← hL6]; exact (List.getElem?_eq_some_iff.1 hv).1
    rw [← hL, List.getElem?_take, if_pos hj, List.getElem?_drop] at hv
    rw [Nat.add_assoc, hc (o + j) (by omega), hv]
  refine ⟨⟨.mk k0 b0 m0 t0 x0 q0, .mk k1 b1 m1 t1 x1 q1, .mk k2 b2 m2 t2 x2 q2⟩, fun g off hc => ⟨holdsOne_of (part 0 _ e0 rfl g off hc (by omega)) f0 d0, holdsOne_of (part 6 _ e1 rfl g off hc (by omega)) f1 d1, holdsOne_of (part 12 _ e2 rfl g off hc (by omega)) f2 d2⟩⟩
/-- One thing that is asked, read. -/
theorem op_of_trod {W : World} (B : Nat) (hBB : B ≤ 2097152) {n : Nat} {cs : List Value} {y : DataW H × List MemPlace} (h : DataW.trod enc Tryz.prog W 0 (fun _ => true) true n 57 cs = some y) (hB : Rows.uptoBulk y.1 ≤ B) :
    ∃ t : Int × Val, ∀ g off, (∀ j, j < 7 → W.cell? ⟨g, off + j, none⟩ = cs[j]?) → W.cell? ⟨g, off, none⟩ = some (.int .i64 t.1) ∧ HoldsOne W g (off + 1) t.2 := by
  obtain ⟨xs, n', rfl, rfl, hl, hlen, hf⟩ := DataW.trod_struct Tryz.underlying57 h
  have hl7 : cs.length = 7 := hl.trans (by kernel_rfl : Tryz.prog.cellsOf 57 = 7)
  have hlen2 : xs.length = 2 := hlen.trans rfl
  obtain ⟨y0, y1, rfl⟩ : ∃ a b, xs = [a, b] := by
    match xs, hlen2 with
    | [a, b], _ => exact ⟨a, b, rfl⟩
  have e6 : Tryz.prog.cellsOf 39 = 6 := by kernel_rfl
  have e1 : Tryz.prog.cellsOf 3 = 1 := by kernel_rfl
  have h0 : DataW.trod enc Tryz.prog W 0 (fun _ => true) true n' 3 ((cs.drop 0).take (Tryz.prog.cellsOf 3)) = [y0, y1][0]? := hf 0 _ rfl
  have h1 : DataW.trod enc Tryz.prog W 0 (fun _ => true) true n' 39 ((cs.drop 1).take (Tryz.prog.cellsOf 39)) = [y0, y1][1]? := hf 1 _ rfl
  rw [e1] at h0
  rw [e6] at h1
  have hall : Rows.uptoBulk y0.1 + (Rows.uptoBulk y1.1 + 0) + 1 ≤ B := hB
  obtain ⟨k1, b1, m1, t1, x1, q1, p1, ev, f1, d1⟩ := one_of_trod B hBB h1 (by omega)
  obtain ⟨c0, hc0⟩ : ∃ c0, (cs.drop 0).take 1 = [c0] := by
    cases cs with
    | nil => exact absurd hl7 (by simp)
    | cons c r => exact ⟨c, rfl⟩
  rw [hc0] at h0
  obtain ⟨k, a0, _, _⟩ := DataW.trod_int Tryz.underlying3 h0
  obtain rfl : c0 = .int .i64 k := by simpa using a0
  have hcs0 : cs[0]? = some (.int .i64 k) := by
    have := congrArg (fun l : List Value => l[0]?) hc0
    simp only [List.drop_zero] at this
    rw [List.getElem?_take, if_pos (by omega)] at this
    exact this
  refine ⟨(k, .mk k1 b1 m1 t1 x1 q1), fun g off hc => ⟨?_, holdsOne_of (fun j v hv => ?_) f1 d1⟩⟩
  · have := hc 0 (by omega)
    rw [hcs0] at this
    exact this
  · have hj : j < 6 := (List.getElem?_eq_some_iff.1 hv).1
    rw [← ev, List.getElem?_take, if_pos hj, List.getElem?_drop] at hv
    rw [Nat.add_assoc, hc (1 + j) (by omega), hv]
/-- A slice whose elements have size cells each, read element by element. -/
theorem slice_read {W : World} {B n ty ety size : Nat} {L : Value} {y : DataW H × List MemPlace} (hu : Tryz.prog.underlying ty = some (.slice ety)) (hsz : Tryz.prog.cellsOf ety = size) (h0s : 0 < size)
    (h : DataW.trod enc Tryz.prog W 0 (fun _ => true) true n ty [L] = some y) (hB : Rows.uptoBulk y.1 ≤ B) :
    ∃ p len cap, L = .slice p len cap ∧ len ≤ B ∧ (len = 0 ∨ ∃ g off, p = some ⟨g, off, none⟩ ∧ ∀ i, i < len → ∃ n' cs yi, DataW.trod enc Tryz.prog W 0 (fun _ => true) true n' ety cs = some yi ∧ Rows.uptoBulk yi.1 ≤ B ∧ ∀ j, j < size → W.cell? ⟨g, off + i * size + j, none⟩ = cs[j]?) := by
  cases n with
  | zero => simp [DataW.trod] at h
  | succ n0 =>
    rcases DataW.trod_slice hu h with ⟨e, _⟩ | ⟨a, len, cap, elems, rest, n1, hn, e, rfl, hb, hl, hm, hlen, hel, _, _⟩
    · obtain rfl : L = .slice none 0 0 := by simpa using e
      exact ⟨none, 0, 0, rfl, Nat.zero_le _, .inl rfl⟩
    · obtain rfl : L = .slice (some a) len cap := by simpa using e
      rw [hsz] at hel
      have hE1 : Rows.uptoBulkAll (elems.map (·.1)) + Rows.uptoBulkAll (rest.map (·.1)) + 1 ≤ B := hB
      have hE : Rows.uptoBulkAll (elems.map (·.1)) ≤ B := by omega
      have hln : len ≤ B := by
        have := bulk_len (elems.map (·.1))
        simp only [List.length_map] at this
        omega
      have each : ∀ i, i < len → ∃ n' cs yi, DataW.trod enc Tryz.prog W 0 (fun _ => true) true n' ety cs = some yi ∧ Rows.uptoBulk yi.1 ≤ B ∧ ∀ j, j < size → W.cell? ((a.add (i * size)).add j) = cs[j]? ∧ cs.length = size := by
        intro i hi
        have h1 := hel i hi
        have hi' : i < elems.length := by omega
        rw [List.getElem?_eq_getElem hi', Option.bind_eq_some_iff] at h1
        obtain ⟨cs, hcs, hy⟩ := h1
        obtain ⟨c1, c2⟩ := mapM_cells hcs
        exact ⟨_, cs, _, hy, Nat.le_trans (bulk_mem (List.mem_map_of_mem (List.getElem_mem hi'))) hE, fun j hj => ⟨c2 j hj, c1⟩⟩
      refine ⟨some a, len, cap, rfl, hln, ?_⟩
      by_cases h0 : len = 0
      · exact .inl h0
      · right
        have hsp : a.spot = none := by
          obtain ⟨n', cs, yi, _, _, hc⟩ := each 0 (by omega)
          have hc0 := hc 0 h0s
          obtain ⟨z, hz⟩ : ∃ z, cs[0]? = some z := ⟨_, List.getElem?_eq_getElem (by rw [hc0.2]; exact h0s)⟩
          have h0 := hc0.1.trans hz
          cases kk : a.spot with
          | none => rfl
          | some mm =>
            rw [show (a.add (0 * size)).add 0 = a by simp [Addr.add]] at h0
            unfold World.cell? at h0
            rw [kk] at h0
            split at h0 <;> simp at h0
        obtain ⟨g, off, spot⟩ := a
        simp only at hsp
        subst hsp
        refine ⟨g, off, rfl, fun i hi => ?_⟩
        obtain ⟨n', cs, yi, h1, h2, h3⟩ := each i hi
        refine ⟨n', cs, yi, h1, h2, fun j hj => ?_⟩
        have := (h3 j hj).1
        rwa [add_none, add_none] at this
theorem tris_of_trod {W : World} (B : Nat) (hBB : B ≤ 2097152) {n : Nat} {L : Value} {y : DataW H × List MemPlace} (h : DataW.trod enc Tryz.prog W 0 (fun _ => true) true n 22 [L] = some y) (hB : Rows.uptoBulk y.1 ≤ B) :
    ∃ l, Tris W L l ∧ l.length ≤ B := by
  obtain ⟨p, len, cap, rfl, hln, hh⟩ := slice_read (B := B) (size := 18) Tryz.underlying22 (by kernel_rfl) (by omega) h hB
  rcases hh with rfl | ⟨g, off, rfl, each⟩
  · exact ⟨[], ⟨p, cap, rfl, fun e => absurd rfl e⟩, Nat.zero_le _⟩
  · have build : ∀ m, m ≤ len → ∃ l : List Tri3, l.length = m ∧ Holds W g (off + (len - m) * 18) (flat l) := by
      intro m
      induction m with
      | zero => exact fun _ => ⟨[], rfl, by rw [flat_nil]; unfold Holds; trivial⟩
      | succ m ih =>
        intro hm1
        obtain ⟨l, hll, hh⟩ := ih (by omega)
        obtain ⟨n', cs, yi, h1, h2, h3⟩ := each (len - (m + 1)) (by omega)
        obtain ⟨t, ht⟩ := tri_of_trod B hBB h1 h2
        obtain ⟨t1, t2, t3⟩ := ht g _ h3
        refine ⟨t :: l, by simp [hll], ?_⟩
        rw [flat_cons]
        unfold Holds
        refine ⟨t1, ?_⟩
        unfold Holds
        refine ⟨t2, ?_⟩
        unfold Holds
        refine ⟨t3, ?_⟩
        rw [show off + (len - (m + 1)) * 18 + 6 + 6 + 6 = off + (len - m) * 18 by omega]
        exact hh
    obtain ⟨l, hll, hh⟩ := build len (Nat.le_refl _)
    rw [Nat.sub_self, Nat.zero_mul, Nat.add_zero] at hh
    exact ⟨l, ⟨_, cap, by rw [hll], fun _ => ⟨g, off, rfl, hh⟩⟩, by omega⟩
theorem ops_of_trod {W : World} (B : Nat) (hBB : B ≤ 2097152) {n : Nat} {L : Value} {y : DataW H × List MemPlace} (h : DataW.trod enc Tryz.prog W 0 (fun _ => true) true n 24 [L] = some y) (hB : Rows.uptoBulk y.1 ≤ B) :
    ∃ l, OpsAt W L l ∧ l.length ≤ B := by
  obtain ⟨p, len, cap, rfl, hln, hh⟩ := slice_read (B := B) (size := 7) Tryz.underlying24 (by kernel_rfl) (by omega) h hB
  rcases hh with rfl | ⟨g, off, rfl, each⟩
  · exact ⟨[], ⟨p, cap, rfl, fun e => absurd rfl e⟩, Nat.zero_le _⟩
  · have build : ∀ m, m ≤ len → ∃ l : List (Int × Val), l.length = m ∧ ∀ (j : Nat) (h : j < l.length), W.cell? ⟨g, off + (len - m + j) * 7, none⟩ = some (.int .i64 l[j].1) ∧ HoldsOne W g (off + (len - m + j) * 7 + 1) l[j].2 := by
      intro m
      induction m with
      | zero => exact fun _ => ⟨[], rfl, fun j h => absurd h (by simp)⟩
      | succ m ih =>
        intro hm1
        obtain ⟨l, hll, hh⟩ := ih (by omega)
        obtain ⟨n', cs, yi, h1, h2, h3⟩ := each (len - (m + 1)) (by omega)
        obtain ⟨t, ht⟩ := op_of_trod B hBB h1 h2
        obtain ⟨t1, t2⟩ := ht g _ h3
        refine ⟨t :: l, by simp [hll], fun j hj => ?_⟩
        match j, hj with
        | 0, _ => exact ⟨t1, t2⟩
        | j + 1, hj =>
          have := hh j (by simpa using hj)
          rw [show len - (m + 1) + (j + 1) = len - m + j by omega]
          exact this
    obtain ⟨l, hll, hh⟩ := build len (Nat.le_refl _)
    refine ⟨l, ⟨_, cap, by rw [hll], fun _ => ⟨g, off, rfl, fun j hj => ?_⟩⟩, by omega⟩
    have := hh j hj
    rw [show len - len + j = j by omega] at this
    exact this
end Go.Proofs.YtanbgdhmfjgihaaGreatDoor
