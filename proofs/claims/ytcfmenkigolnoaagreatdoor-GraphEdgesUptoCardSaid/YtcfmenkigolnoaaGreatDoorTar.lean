/- Texts of one kind, one behind the other: each says ahead of itself what it shows. -/
import Derived.Test.YtcfmenkigolnoaaGreatDoorTae
import Derived.Test.YtcfmenkigolnoaaGreatDoorRows
import Derived.ProofKit
import Derived.OpenShut
import Derived.Carry
import Derived.Test.YtcfmenkigolnoaaGreatDoorTaq
/- A list of values that came in: where it lies, and what it is. -/
namespace Go.Proofs.YtcfmenkigolnoaaGreatDoor
open Go.RowKit Go.ChangeShapes
variable {H : Type} {enc : TypeId × Value → H}

theorem mapM_cells {w : World} {a : Addr} {m : Nat} {cs : List Value} (h : w.cells? 0 a m = some cs) : cs.length = m ∧ ∀ j, j < m → w.cell? (a.add j) = cs[j]? := by
  unfold World.cells? at h
  rw [if_pos (Nat.zero_le _)] at h
  have hl := mapM_some_length h
  rw [List.length_range] at hl
  refine ⟨hl, fun j hj => ?_⟩
  exact mapM_some_get h j j (by rw [List.getElem?_range hj])
theorem add_none (g off i : Nat) : (Addr.mk g off none).add i = ⟨g, off + i, none⟩ := by unfold Addr.add; split <;> simp_all
theorem list6 {α : Type} {l : List α} (h : l.length = 6) : ∃ a b c d e f, l = [a, b, c, d, e, f] := by
  match l, h with
  | [a, b, c, d, e, f], _ => exact ⟨a, b, c, d, e, f, rfl⟩
theorem bulk_mem {d : DataW H} : {l : List (DataW H)} → d ∈ l → Rows.uptoBulk d ≤ Rows.uptoBulkAll l
  | [], h => absurd h (by simp)
  | e :: r, h => by
    unfold Rows.uptoBulkAll
    rcases List.mem_cons.1 h with h | h
    · rw [h]; omega
    · have := bulk_mem h; omega
theorem bulk_pos (d : DataW H) : 1 ≤ Rows.uptoBulk d := by
  cases d with
  | lit l => cases l <;> simp [Rows.uptoBulk]
  | _ => simp [Rows.uptoBulk]
theorem bulk_len : (l : List (DataW H)) → l.length ≤ Rows.uptoBulkAll l
  | [] => by simp
  | e :: r => by
    unfold Rows.uptoBulkAll
    have := bulk_len r
    have := bulk_pos e
    simp only [List.length_cons]
    omega

theorem value_of_trod {W : World} {n : Nat} {cs : List Value} {y : DataW H × List MemPlace} (h : DataW.trod enc Tryz.prog W 0 (fun _ => true) true n 60 cs = some y) :
    ∃ n' k b m t x L yl, n = n' + 1 ∧ cs = [.int .i64 k, .bool b, .int .i64 m, .string t, .string x, L] ∧ DataW.trod enc Tryz.prog W 0 (fun _ => true) true n' 43 [L] = some yl ∧
      t.size ≤ Rows.uptoBulk y.1 ∧ x.size ≤ Rows.uptoBulk y.1 ∧ Rows.uptoBulk yl.1 ≤ Rows.uptoBulk y.1 ∧ (Lit.int .i64 m).wf = true := by
  obtain ⟨xs, n', rfl, rfl, hl, hlen, hf⟩ := DataW.trod_struct Tryz.underlying60 h
  obtain ⟨c0, c1, c2, c3, c4, c5, rfl⟩ := list6 (hl.trans (by kernel_rfl : Tryz.prog.cellsOf 60 = 6))
  obtain ⟨y0, y1, y2, y3, y4, y5, rfl⟩ := list6 (hlen.trans rfl)
  have e1 : Tryz.prog.cellsOf 3 = 1 := by kernel_rfl
  have e2 : Tryz.prog.cellsOf 4 = 1 := by kernel_rfl
  have e3 : Tryz.prog.cellsOf 2 = 1 := by kernel_rfl
  have e4 : Tryz.prog.cellsOf 9 = 1 := by kernel_rfl
  have e5 : Tryz.prog.cellsOf 43 = 1 := by kernel_rfl
  have h0 : DataW.trod enc Tryz.prog W 0 (fun _ => true) true n' 3 (([c0, c1, c2, c3, c4, c5].drop 0).take (Tryz.prog.cellsOf 3)) = [y0, y1, y2, y3, y4, y5][0]? := hf 0 _ rfl
  have h1 : DataW.trod enc Tryz.prog W 0 (fun _ => true) true n' 4 (([c0, c1, c2, c3, c4, c5].drop 1).take (Tryz.prog.cellsOf 4)) = [y0, y1, y2, y3, y4, y5][1]? := hf 1 _ rfl
  have h2 : DataW.trod enc Tryz.prog W 0 (fun _ => true) true n' 2 (([c0, c1, c2, c3, c4, c5].drop 2).take (Tryz.prog.cellsOf 2)) = [y0, y1, y2, y3, y4, y5][2]? := hf 2 _ rfl
  have h3 : DataW.trod enc Tryz.prog W 0 (fun _ => true) true n' 9 (([c0, c1, c2, c3, c4, c5].drop 3).take (Tryz.prog.cellsOf 9)) = [y0, y1, y2, y3, y4, y5][3]? := hf 3 _ rfl
  have h4 : DataW.trod enc Tryz.prog W 0 (fun _ => true) true n' 9 (([c0, c1, c2, c3, c4, c5].drop 4).take (Tryz.prog.cellsOf 9)) = [y0, y1, y2, y3, y4, y5][4]? := hf 4 _ rfl
  have h5 : DataW.trod enc Tryz.prog W 0 (fun _ => true) true n' 43 (([c0, c1, c2, c3, c4, c5].drop 5).take (Tryz.prog.cellsOf 43)) = [y0, y1, y2, y3, y4, y5][5]? := hf 5 _ rfl
  rw [e1] at h0
  rw [e2] at h1
  rw [e3] at h2
  rw [e4] at h3 h4
  rw [e5] at h5
  replace h0 : DataW.trod enc Tryz.prog W 0 (fun _ => true) true n' 3 [c0] = some y0 := h0
  replace h1 : DataW.trod enc Tryz.prog W 0 (fun _ => true) true n' 4 [c1] = some y1 := h1
  replace h2 : DataW.trod enc Tryz.prog W 0 (fun _ => true) true n' 2 [c2] = some y2 := h2
  replace h3 : DataW.trod enc Tryz.prog W 0 (fun _ => true) true n' 9 [c3] = some y3 := h3
  replace h4 : DataW.trod enc Tryz.prog W 0 (fun _ => true) true n' 9 [c4] = some y4 := h4
  replace h5 : DataW.trod enc Tryz.prog W 0 (fun _ => true) true n' 43 [c5] = some y5 := h5
  obtain ⟨k, a0, _, _⟩ := DataW.trod_int Tryz.underlying3 h0
  obtain ⟨b, a1, _⟩ := DataW.trod_bool Tryz.underlying4 h1
  obtain ⟨m, a2, _, wm⟩ := DataW.trod_int Tryz.underlying2 h2
  obtain ⟨t, a3, z3, _⟩ := DataW.trod_string Tryz.underlying9 h3
  obtain ⟨x, a4, z4, _⟩ := DataW.trod_string Tryz.underlying9 h4
  simp only [List.cons.injEq, and_true] at a0 a1 a2 a3 a4
  subst a0 a1 a2 a3 a4
  refine ⟨n', k, b, m, t, x, c5, y5, rfl, rfl, h5, ?_, ?_, ?_, wm⟩
  · have : Rows.uptoBulk y3.1 ≤ Rows.uptoBulkAll ([y0, y1, y2, y3, y4, y5].map (·.1)) := bulk_mem (by simp)
    rw [z3] at this
    have e : Rows.uptoBulk (.lit (.string t.data.toList) : DataW H) = t.data.toList.length + 1 := rfl
    have e' : t.data.toList.length = t.size := Array.length_toList
    show t.size ≤ Rows.uptoBulkAll _ + 1
    rw [e, e', ← z3] at this
    omega
  · have : Rows.uptoBulk y4.1 ≤ Rows.uptoBulkAll ([y0, y1, y2, y3, y4, y5].map (·.1)) := bulk_mem (by simp)
    rw [z4] at this
    have e : Rows.uptoBulk (.lit (.string x.data.toList) : DataW H) = x.data.toList.length + 1 := rfl
    have e' : x.data.toList.length = x.size := Array.length_toList
    show x.size ≤ Rows.uptoBulkAll _ + 1
    rw [e, e', ← z4] at this
    omega
  · have : Rows.uptoBulk y5.1 ≤ Rows.uptoBulkAll ([y0, y1, y2, y3, y4, y5].map (·.1)) := bulk_mem (by simp)
    show Rows.uptoBulk y5.1 ≤ Rows.uptoBulkAll _ + 1
    omega
theorem i64_wf {m : Int} (h : (Lit.int .i64 m).wf = true) : -9223372036854775808 ≤ m ∧ m ≤ 9223372036854775807 := by
  have := bounds_i64 h
  omega

set_option maxRecDepth 20000 in
theorem vals_of_trod {W : World} (B : Nat) (hBB : B ≤ 2097152) : ∀ (N n : Nat), n ≤ N → ∀ (L : Value) (y : DataW H × List MemPlace), DataW.trod enc Tryz.prog W 0 (fun _ => true) true n 43 [L] = some y → Rows.uptoBulk y.1 ≤ B → ∃ l, Held W L l ∧ l.length ≤ B := by
  intro N
  induction N with
  | zero =>
    intro n hn L y h _
    obtain rfl : n = 0 := by omega
    simp [DataW.trod] at h
  | succ N IH =>
    intro n0 hn0 L y h hB
    rcases DataW.trod_slice Tryz.underlying43 h with ⟨e, _⟩ | ⟨a, len, cap, elems, rest, n1, hn, e, rfl, hb, hl, hm, hlen, hel, _, _⟩
    · obtain rfl : L = .slice none 0 0 := by simpa using e
      exact ⟨[], by unfold Held; exact ⟨none, 0, rfl⟩, by simp⟩
    · obtain rfl : L = .slice (some a) len cap := by simpa using e
      rw [show Tryz.prog.cellsOf 60 = 6 by kernel_rfl] at hel
      have hE : Rows.uptoBulkAll (elems.map (·.1)) ≤ B := by
        have : Rows.uptoBulkAll (elems.map (·.1)) + Rows.uptoBulkAll (rest.map (·.1)) + 1 ≤ B := hB
        omega
      have hln : len ≤ B := by
        have := bulk_len (elems.map (·.1))
        simp only [List.length_map] at this
        omega
      have each : ∀ i, i < len → ∃ k b m t x l p, (∀ j v, [Value.int .i64 k, .bool b, .int .i64 m, .string t, .string x, p][j]? = some v → W.cell? ((a.add (i * 6)).add j) = some v) ∧ Fine m t x (List.length (α := Val) l) ∧ Held W p l := by
        intro i hi
        have h1 := hel i hi
        have hi' : i < elems.length := by omega
        rw [List.getElem?_eq_getElem hi', Option.bind_eq_some_iff] at h1
        obtain ⟨cs, hcs, hy⟩ := h1
        obtain ⟨c1, c2⟩ := mapM_cells hcs
        obtain ⟨n', k, b, m, t, x, p, yl, hn', rfl, hp, ht, hx, hpl, wm⟩ := value_of_trod hy
        have hbe : Rows.uptoBulk elems[i].1 ≤ B := Nat.le_trans (bulk_mem (List.mem_map_of_mem (List.getElem_mem hi'))) hE
        obtain ⟨l, hheld, hll⟩ := IH n' (by omega) p yl hp (by omega)
        obtain ⟨w1, w2⟩ := i64_wf wm
        refine ⟨k, b, m, t, x, l, p, fun j v hv => ?_, ⟨by omega, by omega, by omega, w1, w2⟩, hheld⟩
        have hj : j < 6 := by
          have := (List.getElem?_eq_some_iff.1 hv).1
          simpa using this
        rw [c2 j hj, hv]
      by_cases h0 : len = 0
      · subst h0
        exact ⟨[], by unfold Held; exact ⟨some a, cap, rfl⟩, by simp⟩
      · have hsp : a.spot = none := by
          obtain ⟨k, b, m, t, x, l, p, hc, _, _⟩ := each 0 (by omega)
          have h0 := hc 0 _ rfl
          cases kk : a.spot with
          | none => rfl
          | some mm =>
            rw [show (a.add (0 * 6)).add 0 = a by simp [Addr.add]] at h0
            unfold World.cell? at h0
            rw [kk] at h0
            split at h0 <;> simp at h0
        obtain ⟨g, off, spot⟩ := a
        simp only at hsp
        subst hsp
        have build : ∀ m, m ≤ len → ∃ l : List Val, l.length = m ∧ Holds W g (off + (len - m) * 6) l := by
          intro m
          induction m with
          | zero => exact fun _ => ⟨[], rfl, by unfold Holds; trivial⟩
          | succ m ih =>
            intro hm1
            obtain ⟨l, hll, hh⟩ := ih (by omega)
            obtain ⟨k, b, mm, t, x, q, p, hc, hf, hp⟩ := each (len - (m + 1)) (by omega)
            have ea : ∀ j, ((⟨g, off, none⟩ : Addr).add ((len - (m + 1)) * 6)).add j = ⟨g, off + (len - (m + 1)) * 6 + j, none⟩ := fun j => by rw [add_none, add_none]
            refine ⟨.mk k b mm t x q :: l, by simp [hll], ?_⟩
            unfold Holds
            refine ⟨?_, ?_⟩
            · unfold HoldsOne
              have hcj := fun j v hv => (congrArg W.cell? (ea j)).symm.trans (hc j v hv)
              exact ⟨hcj 0 _ rfl, hcj 1 _ rfl, hcj 2 _ rfl, hcj 3 _ rfl, hcj 4 _ rfl, hf, p, hcj 5 _ rfl, hp⟩
            · rw [show off + (len - (m + 1)) * 6 + 6 = off + (len - m) * 6 by omega]
              exact hh
        obtain ⟨l, hll, hh⟩ := build len (Nat.le_refl _)
        rw [Nat.sub_self, Nat.zero_mul, Nat.add_zero] at hh
        refine ⟨l, ?_, by omega⟩
        cases l with
        | nil => simp at hll; omega
        | cons v r =>
          unfold Holds at hh
          unfold Held
          exact ⟨g, off, cap, by rw [← hll]; rfl, hh.1, hh.2⟩
end Go.Proofs.YtcfmenkigolnoaaGreatDoor

/- A law's argument, read: a graph. -/
namespace Go.Proofs.YtcfmenkigolnoaaGreatDoor
open Go.RowKit Go.ChangeShapes

theorem HoldsOne.lt {w : World} {g off : Nat} : (v : Val) → HoldsOne w g off v → g < w.heap.size
  | .mk k b n t x l, h => by
    unfold HoldsOne at h
    exact World.block_lt_of_cell? w _ h.1
mutual
theorem HoldsOne.old {w : World} {g off : Nat} : (v : Val) → HoldsOne w g off v → HoldsOneF w (Old w) g off v
  | .mk k b n t x l, h => by
    unfold HoldsOne at h
    unfold HoldsOneF
    obtain ⟨h0, h1, h2, h3, h4, hf, L, h5, hl⟩ := h
    exact ⟨h0, h1, h2, h3, h4, hf, L, h5, Held.old l hl⟩
theorem Held.old {w : World} {L : Value} : (l : List Val) → Held w L l → HeldF w (Old w) L l
  | [], h => by
    unfold Held at h
    unfold HeldF
    exact h
  | v :: r, h => by
    unfold Held at h
    unfold HeldF
    obtain ⟨g, off, cap, e, hv, hr⟩ := h
    exact ⟨g, off, cap, e, HoldsOne.lt v hv, HoldsOne.old v hv, Holds.old r hr⟩
theorem Holds.old {w : World} {g off : Nat} : (l : List Val) → Holds w g off l → HoldsF w (Old w) g off l
  | [], _ => by unfold HoldsF; trivial
  | v :: r, h => by
    unfold Holds at h
    unfold HoldsF
    exact ⟨HoldsOne.old v h.1, Holds.old r h.2⟩
end
theorem range_append {w : World} {g o : Nat} {a b : List Value} (h : w.rangeAt g o a) (k : w.rangeAt g (o + a.length) b) : w.rangeAt g o (a ++ b) := fun j u hj => by
  by_cases q : j < a.length
  · rw [List.getElem?_append_left q] at hj
    exact h j u hj
  · rw [List.getElem?_append_right (by omega)] at hj
    have := k (j - a.length) u hj
    rwa [show o + a.length + (j - a.length) = o + j by omega] at this
section
variable {H : Type} {enc : TypeId × Value → H}
/-- A slice whose elements have size cells each, read element by element. -/
theorem slice_read {W : World} {B n ty ety size : Nat} {L : Value} {y : DataW H × List MemPlace} (hu : Tryz.prog.underlying ty = some (.slice ety)) (hsz : Tryz.prog.cellsOf ety = size) (h0s : 0 < size)
    (h : DataW.trod enc Tryz.prog W 0 (fun _ => true) true n ty [L] = some y) (hB : Rows.uptoBulk y.1 ≤ B) :
    ∃ p len cap, L = .slice p len cap ∧ len ≤ B ∧ (len = 0 ∨ ∃ g off, p = some ⟨g, off, none⟩ ∧ ∀ i, i < len → ∃ n' cs yi, DataW.trod enc Tryz.prog W 0 (fun _ => true) true n' ety cs = some yi ∧ Rows.uptoBulk yi.1 ≤ B ∧ ∀ j, j < size → W.cell? ⟨g, off + i * size + j, none⟩ = cs[j]?) := by
  cases n with
  | zero => simp [DataW.trod] at h
  | succ n0 =>
    rcases DataW.trod_slice hu h with ⟨e, _⟩ | ⟨a, len, cap, elems, rest, n1, hn, e, rfl, hb, hl, hm, hlen, hel, _, _⟩
    · obtain rfl : L = .slice none 0 0 := by simpa using e
      exact ⟨none, 0, 0, rfl, Nat.zero_le _, .inl rfl⟩
    · obtain rfl : L = .slice (some a) len cap := by simpa using e
      rw [hsz] at hel
      have hE1 : Rows.uptoBulkAll (elems.map (·.1)) + Rows.uptoBulkAll (rest.map (·.1)) + 1 ≤ B := hB
      have hE : Rows.uptoBulkAll (elems.map (·.1)) ≤ B := by omega
      have hln : len ≤ B := by
        have := bulk_len (elems.map (·.1))
        simp only [List.length_map] at this
        omega
      have each : ∀ i, i < len → ∃ n' cs yi, DataW.trod enc Tryz.prog W 0 (fun _ => true) true n' ety cs = some yi ∧ Rows.uptoBulk yi.1 ≤ B ∧ ∀ j, j < size → W.cell? ((a.add (i * size)).add j) = cs[j]? ∧ cs.length = size := by
        intro i hi
        have h1 := hel i hi
        have hi' : i < elems.length := by omega
        rw [List.getElem?_eq_getElem hi', Option.bind_eq_some_iff] at h1
        obtain ⟨cs, hcs, hy⟩ := h1
        obtain ⟨c1, c2⟩ := mapM_cells hcs
        exact ⟨_, cs, _, hy, Nat.le_trans (bulk_mem (List.mem_map_of_mem (List.getElem_mem hi'))) hE, fun j hj => ⟨c2 j hj, c1⟩⟩
      refine ⟨some a, len, cap, rfl, hln, ?_⟩
      by_cases h0 : len = 0
      · exact .inl h0
      · right
        have hsp : a.spot = none := by
          obtain ⟨n', cs, yi, _, _, hc⟩ := each 0 (by omega)
          have hc0 := hc 0 h0s
          obtain ⟨z, hz⟩ : ∃ z, cs[0]? = some z := ⟨_, List.getElem?_eq_getElem (by rw [hc0.2]; exact h0s)⟩
          have h0 := hc0.1.trans hz
          cases kk : a.spot with
          | none => rfl
          | some mm =>
            rw [show (a.add (0 * size)).add 0 = a by simp [Addr.add]] at h0
            unfold World.cell? at h0
            rw [kk] at h0
            split at h0 <;> simp at h0
        obtain ⟨g, off, spot⟩ := a
        simp only at hsp
        subst hsp
        refine ⟨g, off, rfl, fun i hi => ?_⟩
        obtain ⟨n', cs, yi, h1, h2, h3⟩ := each i hi
        refine ⟨n', cs, yi, h1, h2, fun j hj => ?_⟩
        have := (h3 j hj).1
        rwa [add_none, add_none] at this
theorem slice_of_trod {α : Type} {E : Elem α} {W : World} {B n ty ety : Nat} {L : Value} {y : DataW H × List MemPlace} (hu : Tryz.prog.underlying ty = some (.slice ety)) (hsz : Tryz.prog.cellsOf ety = E.k) (h0 : 0 < E.k)
    (each : ∀ (n' : Nat) (cs : List Value) (yi : DataW H × List MemPlace), DataW.trod enc Tryz.prog W 0 (fun _ => true) true n' ety cs = some yi → Rows.uptoBulk yi.1 ≤ B → ∃ a, E.rel W (Old W) cs a)
    (h : DataW.trod enc Tryz.prog W 0 (fun _ => true) true n ty [L] = some y) (hB : Rows.uptoBulk y.1 ≤ B) : ∃ l, SliceE E W (Old W) L l ∧ l.length ≤ B := by
  obtain ⟨p, len, cap, rfl, hln, hh⟩ := slice_read (B := B) (size := E.k) hu hsz h0 h hB
  rcases hh with rfl | ⟨g, off, rfl, eachc⟩
  · exact ⟨[], SliceE.nil _ _, Nat.zero_le _⟩
  · have build : ∀ m, m ≤ len → ∃ (l : List α) (xs : List Value), l.length = m ∧ W.rangeAt g (off + (len - m) * E.k) xs ∧ RowE E W (Old W) xs l ∧ (0 < m → g < W.heap.size) := by
      intro m
      induction m with
      | zero => exact fun _ => ⟨[], [], rfl, fun j u hj => by simp at hj, rfl, fun h => absurd h (Nat.lt_irrefl _)⟩
      | succ m ih =>
        intro hm1
        obtain ⟨l, xs, hll, hr, hrow, _⟩ := ih (by omega)
        obtain ⟨n', cs, yi, h1, h2, h3⟩ := eachc (len - (m + 1)) (by omega)
        obtain ⟨a, ha⟩ := each n' cs yi h1 h2
        have hlen := E.len ha
        have hc : W.rangeAt g (off + (len - (m + 1)) * E.k) cs := fun j u hj => by
          rw [h3 j (by rw [← hlen]; exact (List.getElem?_eq_some_iff.1 hj).1)]
          exact hj
        refine ⟨a :: l, cs ++ xs, by simp [hll], range_append hc ?_, ⟨cs, xs, rfl, ha, hrow⟩, fun _ => ?_⟩
        · rw [hlen, show off + (len - (m + 1)) * E.k + E.k = off + (len - m) * E.k by
            rw [show len - m = (len - (m + 1)) + 1 by omega, Nat.add_mul, Nat.one_mul, Nat.add_assoc]]
          exact hr
        · exact World.block_lt_of_cell? W _ (hc 0 cs[0] (List.getElem?_eq_getElem (by omega)))
    obtain ⟨l, xs, hll, hr, hrow, hg⟩ := build len (Nat.le_refl _)
    rw [Nat.sub_self, Nat.zero_mul, Nat.add_zero] at hr
    refine ⟨l, ⟨_, cap, by rw [hll], fun hne => ⟨g, off, xs, rfl, hg ?_, hr, hrow⟩⟩, by omega⟩
    have : 0 < l.length := List.length_pos_iff.2 hne
    omega
theorem text_of_trod {W : World} {B n : Nat} {cs : List Value} {y : DataW H × List MemPlace} (hBB : B ≤ 2097152) (h : DataW.trod enc Tryz.prog W 0 (fun _ => true) true n 9 cs = some y) (hB : Rows.uptoBulk y.1 ≤ B) : ∃ t, textE.rel W (Old W) cs t := by
  obtain ⟨t, a3, z3, _⟩ := DataW.trod_string Tryz.underlying9 h
  rw [z3] at hB
  have e : Rows.uptoBulk (.lit (.string t.data.toList) : DataW H) = t.data.toList.length + 1 := rfl
  have e' : t.data.toList.length = t.size := Array.length_toList
  rw [e, e'] at hB
  exact ⟨t, a3, by omega⟩
theorem val_of_trod {W : World} {B n : Nat} {cs : List Value} {y : DataW H × List MemPlace} (hBB : B ≤ 2097152) (h : DataW.trod enc Tryz.prog W 0 (fun _ => true) true n 60 cs = some y) (hB : Rows.uptoBulk y.1 ≤ B) : ∃ v, valRel W (Old W) cs v := by
  obtain ⟨n', k, b, m, t, x, L, yl, rfl, rfl, hp, ht, hx, hpl, wm⟩ := value_of_trod h
  obtain ⟨l, hheld, hll⟩ := vals_of_trod B hBB n' n' (Nat.le_refl _) L yl hp (by omega)
  obtain ⟨w1, w2⟩ := i64_wf wm
  exact ⟨.mk k b m t x l, L, rfl, ⟨by omega, by omega, by omega, w1, w2⟩, Held.old l hheld⟩
theorem pair_of_trod {W : World} {B n : Nat} {cs : List Value} {y : DataW H × List MemPlace} (hBB : B ≤ 2097152) (h : DataW.trod enc Tryz.prog W 0 (fun _ => true) true n 70 cs = some y) (hB : Rows.uptoBulk y.1 ≤ B) : ∃ a, pairE.rel W (Old W) cs a := by
  obtain ⟨xs, n', rfl, rfl, hl, hlen, hf⟩ := DataW.trod_struct Tryz.underlying70 h
  have hl7 : cs.length = 7 := hl.trans (by kernel_rfl : Tryz.prog.cellsOf 70 = 7)
  have hlen2 : xs.length = 2 := hlen.trans rfl
  obtain ⟨y0, y1, rfl⟩ : ∃ a b, xs = [a, b] := by
    match xs, hlen2 with
    | [a, b], _ => exact ⟨a, b, rfl⟩
  obtain ⟨c0, cr, rfl⟩ : ∃ c r, cs = c :: r := by
    cases cs with
    | nil => simp at hl7
    | cons c r => exact ⟨c, r, rfl⟩
  have hr6 : cr.length = 6 := by simpa using hl7
  have e6 : Tryz.prog.cellsOf 60 = 6 := by kernel_rfl
  have e1 : Tryz.prog.cellsOf 9 = 1 := by kernel_rfl
  have h0 : DataW.trod enc Tryz.prog W 0 (fun _ => true) true n' 9 (((c0 :: cr).drop 0).take (Tryz.prog.cellsOf 9)) = [y0, y1][0]? := hf 0 _ rfl
  have h1 : DataW.trod enc Tryz.prog W 0 (fun _ => true) true n' 60 (((c0 :: cr).drop 1).take (Tryz.prog.cellsOf 60)) = [y0, y1][1]? := hf 1 _ rfl
  rw [e1] at h0
  rw [e6] at h1
  have hall : Rows.uptoBulk y0.1 + (Rows.uptoBulk y1.1 + 0) + 1 ≤ B := hB
  obtain ⟨t, ht, hts⟩ := text_of_trod hBB h0 (by omega)
  have h1' : DataW.trod enc Tryz.prog W 0 (fun _ => true) true n' 60 cr = some y1 := by
    have : ((c0 :: cr).drop 1).take 6 = cr := by rw [List.drop_one, List.tail_cons, List.take_of_length_le (by omega)]
    rw [this] at h1
    exact h1
  obtain ⟨v, hv⟩ := val_of_trod hBB h1' (by omega)
  obtain rfl : c0 = .string t := by simpa using ht
  exact ⟨⟨t, v⟩, cr, rfl, hts, hv⟩
theorem texts_of_trod {W : World} {B n : Nat} {L : Value} {y : DataW H × List MemPlace} (hBB : B ≤ 2097152) (h : DataW.trod enc Tryz.prog W 0 (fun _ => true) true n 35 [L] = some y) (hB : Rows.uptoBulk y.1 ≤ B) : ∃ l, SliceE textE W (Old W) L l ∧ l.length ≤ B :=
  slice_of_trod (E := textE) Tryz.underlying35 (by kernel_rfl) (by decide) (fun _ _ _ h hb => text_of_trod hBB h hb) h hB
theorem pairs_of_trod {W : World} {B n : Nat} {L : Value} {y : DataW H × List MemPlace} (hBB : B ≤ 2097152) (h : DataW.trod enc Tryz.prog W 0 (fun _ => true) true n 36 [L] = some y) (hB : Rows.uptoBulk y.1 ≤ B) : ∃ l, SliceE pairE W (Old W) L l ∧ l.length ≤ B :=
  slice_of_trod (E := pairE) Tryz.underlying36 (by kernel_rfl) (by decide) (fun _ _ _ h hb => pair_of_trod hBB h hb) h hB
theorem list3 {α : Type} {l : List α} (h : l.length = 3) : ∃ a b c, l = [a, b, c] := by
  match l, h with
  | [a, b, c], _ => exact ⟨a, b, c, rfl⟩
theorem list5 {α : Type} {l : List α} (h : l.length = 5) : ∃ a b c d e, l = [a, b, c, d, e] := by
  match l, h with
  | [a, b, c, d, e], _ => exact ⟨a, b, c, d, e, rfl⟩
theorem node_of_trod {W : World} {B n : Nat} {cs : List Value} {y : DataW H × List MemPlace} (hBB : B ≤ 2097152) (h : DataW.trod enc Tryz.prog W 0 (fun _ => true) true n 38 cs = some y) (hB : Rows.uptoBulk y.1 ≤ B) : ∃ a, nodeE.rel W (Old W) cs a := by
  obtain ⟨xs, n', rfl, rfl, hl, hlen, hf⟩ := DataW.trod_struct Tryz.underlying38 h
  have hl3 : cs.length = 3 := hl.trans (by kernel_rfl : Tryz.prog.cellsOf 38 = 3)
  have hlen3 : xs.length = 3 := hlen.trans rfl
  obtain ⟨y0, y1, y2, rfl⟩ := list3 hlen3
  obtain ⟨c0, c1, c2, rfl⟩ := list3 hl3
  have e2 : Tryz.prog.cellsOf 2 = 1 := by kernel_rfl
  have e35 : Tryz.prog.cellsOf 35 = 1 := by kernel_rfl
  have e36 : Tryz.prog.cellsOf 36 = 1 := by kernel_rfl
  have h0 : DataW.trod enc Tryz.prog W 0 (fun _ => true) true n' 2 (([c0, c1, c2].drop 0).take (Tryz.prog.cellsOf 2)) = [y0, y1, y2][0]? := hf 0 _ rfl
  have h1 : DataW.trod enc Tryz.prog W 0 (fun _ => true) true n' 35 (([c0, c1, c2].drop 1).take (Tryz.prog.cellsOf 35)) = [y0, y1, y2][1]? := hf 1 _ rfl
  have h2 : DataW.trod enc Tryz.prog W 0 (fun _ => true) true n' 36 (([c0, c1, c2].drop 2).take (Tryz.prog.cellsOf 36)) = [y0, y1, y2][2]? := hf 2 _ rfl
  rw [e2] at h0
  rw [e35] at h1
  rw [e36] at h2
  replace h0 : DataW.trod enc Tryz.prog W 0 (fun _ => true) true n' 2 [c0] = some y0 := h0
  replace h1 : DataW.trod enc Tryz.prog W 0 (fun _ => true) true n' 35 [c1] = some y1 := h1
  replace h2 : DataW.trod enc Tryz.prog W 0 (fun _ => true) true n' 36 [c2] = some y2 := h2
  have hall : Rows.uptoBulk y0.1 + (Rows.uptoBulk y1.1 + (Rows.uptoBulk y2.1 + 0)) + 1 ≤ B := hB
  obtain ⟨m, a0, _, wm⟩ := DataW.trod_int Tryz.underlying2 h0
  obtain ⟨ls, hls, hn1⟩ := texts_of_trod hBB h1 (by omega)
  obtain ⟨ps, hps, hn2⟩ := pairs_of_trod hBB h2 (by omega)
  obtain rfl : c0 = .int .i64 m := by simpa using a0
  exact ⟨⟨m, ls, ps⟩, c1, c2, rfl, wm, by show ls.length ≤ 2097152; omega, by show ps.length ≤ 2097152; omega, hls, hps⟩
theorem edge_of_trod {W : World} {B n : Nat} {cs : List Value} {y : DataW H × List MemPlace} (hBB : B ≤ 2097152) (h : DataW.trod enc Tryz.prog W 0 (fun _ => true) true n 41 cs = some y) (hB : Rows.uptoBulk y.1 ≤ B) : ∃ a, edgeE.rel W (Old W) cs a := by
  obtain ⟨xs, n', rfl, rfl, hl, hlen, hf⟩ := DataW.trod_struct Tryz.underlying41 h
  have hl5 : cs.length = 5 := hl.trans (by kernel_rfl : Tryz.prog.cellsOf 41 = 5)
  have hlen5 : xs.length = 5 := hlen.trans rfl
  obtain ⟨y0, y1, y2, y3, y4, rfl⟩ := list5 hlen5
  obtain ⟨c0, c1, c2, c3, c4, rfl⟩ := list5 hl5
  have e2 : Tryz.prog.cellsOf 2 = 1 := by kernel_rfl
  have e9 : Tryz.prog.cellsOf 9 = 1 := by kernel_rfl
  have e36 : Tryz.prog.cellsOf 36 = 1 := by kernel_rfl
  have h0 : DataW.trod enc Tryz.prog W 0 (fun _ => true) true n' 2 (([c0, c1, c2, c3, c4].drop 0).take (Tryz.prog.cellsOf 2)) = [y0, y1, y2, y3, y4][0]? := hf 0 _ rfl
  have h1 : DataW.trod enc Tryz.prog W 0 (fun _ => true) true n' 2 (([c0, c1, c2, c3, c4].drop 1).take (Tryz.prog.cellsOf 2)) = [y0, y1, y2, y3, y4][1]? := hf 1 _ rfl
  have h2 : DataW.trod enc Tryz.prog W 0 (fun _ => true) true n' 2 (([c0, c1, c2, c3, c4].drop 2).take (Tryz.prog.cellsOf 2)) = [y0, y1, y2, y3, y4][2]? := hf 2 _ rfl
  have h3 : DataW.trod enc Tryz.prog W 0 (fun _ => true) true n' 9 (([c0, c1, c2, c3, c4].drop 3).take (Tryz.prog.cellsOf 9)) = [y0, y1, y2, y3, y4][3]? := hf 3 _ rfl
  have h4 : DataW.trod enc Tryz.prog W 0 (fun _ => true) true n' 36 (([c0, c1, c2, c3, c4].drop 4).take (Tryz.prog.cellsOf 36)) = [y0, y1, y2, y3, y4][4]? := hf 4 _ rfl
  rw [e2] at h0 h1 h2
  rw [e9] at h3
  rw [e36] at h4
  replace h0 : DataW.trod enc Tryz.prog W 0 (fun _ => true) true n' 2 [c0] = some y0 := h0
  replace h1 : DataW.trod enc Tryz.prog W 0 (fun _ => true) true n' 2 [c1] = some y1 := h1
  replace h2 : DataW.trod enc Tryz.prog W 0 (fun _ => true) true n' 2 [c2] = some y2 := h2
  replace h3 : DataW.trod enc Tryz.prog W 0 (fun _ => true) true n' 9 [c3] = some y3 := h3
  replace h4 : DataW.trod enc Tryz.prog W 0 (fun _ => true) true n' 36 [c4] = some y4 := h4
  have hall : Rows.uptoBulk y0.1 + (Rows.uptoBulk y1.1 + (Rows.uptoBulk y2.1 + (Rows.uptoBulk y3.1 + (Rows.uptoBulk y4.1 + 0)))) + 1 ≤ B := hB
  obtain ⟨m0, a0, _, w0⟩ := DataW.trod_int Tryz.underlying2 h0
  obtain ⟨m1, a1, _, w1⟩ := DataW.trod_int Tryz.underlying2 h1
  obtain ⟨m2, a2, _, w2⟩ := DataW.trod_int Tryz.underlying2 h2
  obtain ⟨t, ht, hts⟩ := text_of_trod hBB h3 (by omega)
  obtain ⟨ps, hps, hn2⟩ := pairs_of_trod hBB h4 (by omega)
  obtain rfl : c0 = .int .i64 m0 := by simpa using a0
  obtain rfl : c1 = .int .i64 m1 := by simpa using a1
  obtain rfl : c2 = .int .i64 m2 := by simpa using a2
  obtain rfl : c3 = .string t := by simpa using ht
  exact ⟨⟨m0, m1, m2, t, ps⟩, c4, rfl, ⟨w0, w1, w2⟩, hts, by show ps.length ≤ 2097152; omega, hps⟩
theorem nodes_of_trod {W : World} {B n : Nat} {L : Value} {y : DataW H × List MemPlace} (hBB : B ≤ 2097152) (h : DataW.trod enc Tryz.prog W 0 (fun _ => true) true n 22 [L] = some y) (hB : Rows.uptoBulk y.1 ≤ B) : ∃ l, SliceE nodeE W (Old W) L l ∧ l.length ≤ B :=
  slice_of_trod (E := nodeE) Tryz.underlying22 (by kernel_rfl) (by decide) (fun _ _ _ h hb => node_of_trod hBB h hb) h hB
theorem edges_of_trod {W : World} {B n : Nat} {L : Value} {y : DataW H × List MemPlace} (hBB : B ≤ 2097152) (h : DataW.trod enc Tryz.prog W 0 (fun _ => true) true n 23 [L] = some y) (hB : Rows.uptoBulk y.1 ≤ B) : ∃ l, SliceE edgeE W (Old W) L l ∧ l.length ≤ B :=
  slice_of_trod (E := edgeE) Tryz.underlying23 (by kernel_rfl) (by decide) (fun _ _ _ h hb => edge_of_trod hBB h hb) h hB
end
end Go.Proofs.YtcfmenkigolnoaaGreatDoor
