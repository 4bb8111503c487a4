/- Texts of one kind, one behind the other: each says ahead of itself what it shows. -/
import Derived.Test.YtoifjjgakblhhaaGreatDoorHae
import Derived.Test.YtoifjjgakblhhaaGreatDoorRows
import Derived.ProofKit
import Derived.OpenShut
import Derived.Carry
import Derived.Deep.MidRow
import Derived.Test.YtoifjjgakblhhaaGreatDoorHaa
import Derived.Deep.RegionHeld3
import Derived.Deep.RegionWith
/- A list of values that came in: where it lies, and what it is. -/
namespace Go.Proofs.YtoifjjgakblhhaaGreatDoor
open Go.RowKit Go.ChangeShapes
variable {H : Type} {enc : TypeId × Value → H}

theorem mapM_cells {w : World} {a : Addr} {m : Nat} {cs : List Value} (h : w.cells? 0 a m = some cs) : cs.length = m ∧ ∀ j, j < m → w.cell? (a.add j) = cs[j]? := by
  unfold World.cells? at h
  rw [if_pos (Nat.zero_le _)] at h
  have hl := mapM_some_length h
  rw [List.length_range] at hl
  refine ⟨hl, fun j hj => ?_⟩
  exact mapM_some_get h j j (by rw [List.getElem?_range hj])
theorem add_none (g off i : Nat) : (Addr.mk g off none).add i = ⟨g, off + i, none⟩ := by unfold Addr.add; split <;> simp_all
theorem list6 {α : Type} {l : List α} (h : l.length = 6) : ∃ a b c d e f, l = [a, b, c, d, e, f] := by
  match l, h with
  | [a, b, c, d, e, f], _ => exact ⟨a, b, c, d, e, f, rfl⟩
theorem bulk_mem {d : DataW H} : {l : List (DataW H)} → d ∈ l → Rows.uptoBulk d ≤ Rows.uptoBulkAll l
  | [], h => absurd h (by simp)
  | e :: r, h => by
    unfold Rows.uptoBulkAll
    rcases List.mem_cons.1 h with h | h
    · rw [h]; omega
    · have := bulk_mem h; omega
theorem bulk_pos (d : DataW H) : 1 ≤ Rows.uptoBulk d := by
  cases d with
  | lit l => cases l <;> simp [Rows.uptoBulk]
  | _ => simp [Rows.uptoBulk]
theorem bulk_len : (l : List (DataW H)) → l.length ≤ Rows.uptoBulkAll l
  | [] => by simp
  | e :: r => by
    unfold Rows.uptoBulkAll
    have := bulk_len r
    have := bulk_pos e
    simp only [List.length_cons]
    omega

theorem value_of_trod {W : World} {n : Nat} {cs : List Value} {y : DataW H × List MemPlace} (h : DataW.trod enc Tryz.prog W 0 (fun _ => true) true n 28 cs = some y) :
    ∃ n' k b m t x L yl, n = n' + 1 ∧ cs = [.int .i64 k, .bool b, .int .i64 m, .string t, .string x, L] ∧ DataW.trod enc Tryz.prog W 0 (fun _ => true) true n' 22 [L] = some yl ∧
      t.size ≤ Rows.uptoBulk y.1 ∧ x.size ≤ Rows.uptoBulk y.1 ∧ Rows.uptoBulk yl.1 ≤ Rows.uptoBulk y.1 ∧ (Lit.int .i64 m).wf = true := by
  obtain ⟨xs, n', rfl, rfl, hl, hlen, hf⟩ := DataW.trod_struct Tryz.underlying28 h
  obtain ⟨c0, c1, c2, c3, c4, c5, rfl⟩ := list6 (hl.trans (by kernel_rfl : Tryz.prog.cellsOf 28 = 6))
  obtain ⟨y0, y1, y2, y3, y4, y5, rfl⟩ := list6 (hlen.trans rfl)
  have e1 : Tryz.prog.cellsOf 3 = 1 := by kernel_rfl
  have e2 : Tryz.prog.cellsOf 4 = 1 := by kernel_rfl
  have e3 : Tryz.prog.cellsOf 2 = 1 := by kernel_rfl
  have e4 : Tryz.prog.cellsOf 9 = 1 := by kernel_rfl
  have e5 : Tryz.prog.cellsOf 22 = 1 := by kernel_rfl
  have h0 : DataW.trod enc Tryz.prog W 0 (fun _ => true) true n' 3 (([c0, c1, c2, c3, c4, c5].drop 0).take (Tryz.prog.cellsOf 3)) = [y0, y1, y2, y3, y4, y5][0]? := hf 0 _ rfl
  have h1 : DataW.trod enc Tryz.prog W 0 (fun _ => true) true n' 4 (([c0, c1, c2, c3, c4, c5].drop 1).take (Tryz.prog.cellsOf 4)) = [y0, y1, y2, y3, y4, y5][1]? := hf 1 _ rfl
  have h2 : DataW.trod enc Tryz.prog W 0 (fun _ => true) true n' 2 (([c0, c1, c2, c3, c4, c5].drop 2).take (Tryz.prog.cellsOf 2)) = [y0, y1, y2, y3, y4, y5][2]? := hf 2 _ rfl
  have h3 : DataW.trod enc Tryz.prog W 0 (fun _ => true) true n' 9 (([c0, c1, c2, c3, c4, c5].drop 3).take (Tryz.prog.cellsOf 9)) = [y0, y1, y2, y3, y4, y5][3]? := hf 3 _ rfl
  have h4 : DataW.trod enc Tryz.prog W 0 (fun _ => true) true n' 9 (([c0, c1, c2, c3, c4, c5].drop 4).take (Tryz.prog.cellsOf 9)) = [y0, y1, y2, y3, y4, y5][4]? := hf 4 _ rfl
  have h5 : DataW.trod enc Tryz.prog W 0 (fun _ => true) true n' 22 (([c0, c1, c2, c3, c4, c5].drop 5).take (Tryz.prog.cellsOf 22)) = [y0, y1, y2, y3, y4, y5][5]? := hf 5 _ rfl
  rw [e1] at h0
  rw [e2] at h1
  rw [e3] at h2
  rw [e4] at h3 h4
  rw [e5] at h5
  replace h0 : DataW.trod enc Tryz.prog W 0 (fun _ => true) true n' 3 [c0] = some y0 := h0
  replace h1 : DataW.trod enc Tryz.prog W 0 (fun _ => true) true n' 4 [c1] = some y1 := h1
  replace h2 : DataW.trod enc Tryz.prog W 0 (fun _ => true) true n' 2 [c2] = some y2 := h2
  replace h3 : DataW.trod enc Tryz.prog W 0 (fun _ => true) true n' 9 [c3] = some y3 := h3
  replace h4 : DataW.trod enc Tryz.prog W 0 (fun _ => true) true n' 9 [c4] = some y4 := h4
  replace h5 : DataW.trod enc Tryz.prog W 0 (fun _ => true) true n' 22 [c5] = some y5 := h5
  obtain ⟨k, a0, _, _⟩ := DataW.trod_int Tryz.underlying3 h0
  obtain ⟨b, a1, _⟩ := DataW.trod_bool Tryz.underlying4 h1
  obtain ⟨m, a2, _, wm⟩ := DataW.trod_int Tryz.underlying2 h2
  obtain ⟨t, a3, z3, _⟩ := DataW.trod_string Tryz.underlying9 h3
  obtain ⟨x, a4, z4, _⟩ := DataW.trod_string Tryz.underlying9 h4
  simp only [List.cons.injEq, and_true] at a0 a1 a2 a3 a4
  subst a0 a1 a2 a3 a4
  refine ⟨n', k, b, m, t, x, c5, y5, rfl, rfl, h5, ?_, ?_, ?_, wm⟩
  · have : Rows.uptoBulk y3.1 ≤ Rows.uptoBulkAll ([y0, y1, y2, y3, y4, y5].map (·.1)) := bulk_mem (by simp)
    rw [z3] at this
    have e : Rows.uptoBulk (.lit (.string t.data.toList) : DataW H) = t.data.toList.length + 1 := rfl
    have e' : t.data.toList.length = t.size := Array.length_toList
    show t.size ≤ Rows.uptoBulkAll _ + 1
    rw [e, e', ← z3] at this
    omega
  · have : Rows.uptoBulk y4.1 ≤ Rows.uptoBulkAll ([y0, y1, y2, y3, y4, y5].map (·.1)) := bulk_mem (by simp)
    rw [z4] at this
    have e : Rows.uptoBulk (.lit (.string x.data.toList) : DataW H) = x.data.toList.length + 1 := rfl
    have e' : x.data.toList.length = x.size := Array.length_toList
    show x.size ≤ Rows.uptoBulkAll _ + 1
    rw [e, e', ← z4] at this
    omega
  · have : Rows.uptoBulk y5.1 ≤ Rows.uptoBulkAll ([y0, y1, y2, y3, y4, y5].map (·.1)) := bulk_mem (by simp)
    show Rows.uptoBulk y5.1 ≤ Rows.uptoBulkAll _ + 1
    omega
theorem i64_wf {m : Int} (h : (Lit.int .i64 m).wf = true) : -9223372036854775808 ≤ m ∧ m ≤ 9223372036854775807 := by
  have := bounds_i64 h
  omega

set_option maxRecDepth 20000 in
theorem vals_of_trod {W : World} (B : Nat) (hBB : B ≤ 2097152) : ∀ (N n : Nat), n ≤ N → ∀ (L : Value) (y : DataW H × List MemPlace), DataW.trod enc Tryz.prog W 0 (fun _ => true) true n 22 [L] = some y → Rows.uptoBulk y.1 ≤ B → ∃ l, Held W L l ∧ l.length ≤ B := by
  intro N
  induction N with
  | zero =>
    intro n hn L y h _
    obtain rfl : n = 0 := by omega
    simp [DataW.trod] at h
  | succ N IH =>
    intro n0 hn0 L y h hB
    rcases DataW.trod_slice Tryz.underlying22 h with ⟨e, _⟩ | ⟨a, len, cap, elems, rest, n1, hn, e, rfl, hb, hl, hm, hlen, hel, _, _⟩
    · obtain rfl : L = .slice none 0 0 := by simpa using e
      exact ⟨[], by unfold Held; exact ⟨none, 0, rfl⟩, by simp⟩
    · obtain rfl : L = .slice (some a) len cap := by simpa using e
      rw [show Tryz.prog.cellsOf 28 = 6 by kernel_rfl] at hel
      have hE : Rows.uptoBulkAll (elems.map (·.1)) ≤ B := by
        have : Rows.uptoBulkAll (elems.map (·.1)) + Rows.uptoBulkAll (rest.map (·.1)) + 1 ≤ B := hB
        omega
      have hln : len ≤ B := by
        have := bulk_len (elems.map (·.1))
        simp only [List.length_map] at this
        omega
      have each : ∀ i, i < len → ∃ k b m t x l p, (∀ j v, [Value.int .i64 k, .bool b, .int .i64 m, .string t, .string x, p][j]? = some v → W.cell? ((a.add (i * 6)).add j) = some v) ∧ Fine m t x (List.length (α := Val) l) ∧ Held W p l := by
        intro i hi
        have h1 := hel i hi
        have hi' : i < elems.length := by omega
        rw [List.getElem?_eq_getElem hi', Option.bind_eq_some_iff] at h1
        obtain ⟨cs, hcs, hy⟩ := h1
        obtain ⟨c1, c2⟩ := mapM_cells hcs
        obtain ⟨n', k, b, m, t, x, p, yl, hn', rfl, hp, ht, hx, hpl, wm⟩ := value_of_trod hy
        have hbe : Rows.uptoBulk elems[i].1 ≤ B := Nat.le_trans (bulk_mem (List.mem_map_of_mem (List.getElem_mem hi'))) hE
        obtain ⟨l, hheld, hll⟩ := IH n' (by omega) p yl hp (by omega)
        obtain ⟨w1, w2⟩ := i64_wf wm
        refine ⟨k, b, m, t, x, l, p, fun j v hv => ?_, ⟨by omega, by omega, by omega, w1, w2⟩, hheld⟩
        have hj : j < 6 := by
          have := (List.getElem?_eq_some_iff.1 hv).1
          simpa using this
        rw [c2 j hj, hv]
      by_cases h0 : len = 0
      · subst h0
        exact ⟨[], by unfold Held; exact ⟨some a, cap, rfl⟩, by simp⟩
      · have hsp : a.spot = none := by
          obtain ⟨k, b, m, t, x, l, p, hc, _, _⟩ := each 0 (by omega)
          have h0 := hc 0 _ rfl
          cases kk : a.spot with
          | none => rfl
          | some mm =>
            rw [show (a.add (0 * 6)).add 0 = a by simp [Addr.add]] at h0
            unfold World.cell? at h0
            rw [kk] at h0
            split at h0 <;> simp at h0
        obtain ⟨g, off, spot⟩ := a
        simp only at hsp
        subst hsp
        have build : ∀ m, m ≤ len → ∃ l : List Val, l.length = m ∧ Holds W g (off + (len - m) * 6) l := by
          intro m
          induction m with
          | zero => exact fun _ => ⟨[], rfl, by unfold Holds; trivial⟩
          | succ m ih =>
            intro hm1
            obtain ⟨l, hll, hh⟩ := ih (by omega)
            obtain ⟨k, b, mm, t, x, q, p, hc, hf, hp⟩ := each (len - (m + 1)) (by omega)
            have ea : ∀ j, ((⟨g, off, none⟩ : Addr).add ((len - (m + 1)) * 6)).add j = ⟨g, off + (len - (m + 1)) * 6 + j, none⟩ := fun j => by rw [add_none, add_none]
            refine ⟨.mk k b mm t x q :: l, by simp [hll], ?_⟩
            unfold Holds
            refine ⟨?_, ?_⟩
            · unfold HoldsOne
              have hcj := fun j v hv => (congrArg W.cell? (ea j)).symm.trans (hc j v hv)
              exact ⟨hcj 0 _ rfl, hcj 1 _ rfl, hcj 2 _ rfl, hcj 3 _ rfl, hcj 4 _ rfl, hf, p, hcj 5 _ rfl, hp⟩
            · rw [show off + (len - (m + 1)) * 6 + 6 = off + (len - m) * 6 by omega]
              exact hh
        obtain ⟨l, hll, hh⟩ := build len (Nat.le_refl _)
        rw [Nat.sub_self, Nat.zero_mul, Nat.add_zero] at hh
        refine ⟨l, ?_, by omega⟩
        cases l with
        | nil => simp at hll; omega
        | cons v r =>
          unfold Holds at hh
          unfold Held
          exact ⟨g, off, cap, by rw [← hll]; rfl, hh.1, hh.2⟩
end Go.Proofs.YtoifjjgakblhhaaGreatDoor

/- Whether values in one another may be. -/
namespace Go.Proofs.YtoifjjgakblhhaaGreatDoor
open Go.RowKit

theorem range6 {w : World} {g off : Nat} {a b c d e f : Value} (h0 : w.cell? ⟨g, off, none⟩ = some a) (h1 : w.cell? ⟨g, off + 1, none⟩ = some b) (h2 : w.cell? ⟨g, off + 2, none⟩ = some c)
    (h3 : w.cell? ⟨g, off + 3, none⟩ = some d) (h4 : w.cell? ⟨g, off + 4, none⟩ = some e) (h5 : w.cell? ⟨g, off + 5, none⟩ = some f) : w.rangeAt g off [a, b, c, d, e, f] := by
  intro j v hv
  match j, hv with
  | 0, e => cases e; exact h0
  | 1, e => cases e; exact h1
  | 2, e => cases e; exact h2
  | 3, e => cases e; exact h3
  | 4, e => cases e; exact h4
  | 5, e => cases e; exact h5
  | j + 6, e => simp at e
theorem wpList_loadMid6 {ops : Array Oper} {rest : List Oper} {o : Oper} {a : Act} {w : World} {Q : Exit → Act → World → Prop} (y : Operand) (g off : Nat) (k : Int) (b : Bool) (n : Int) (t x : ByteArray) (L : Value)
    (h0 : w.cell? ⟨g, off, none⟩ = some (.int .i64 k)) (h1 : w.cell? ⟨g, off + 1, none⟩ = some (.bool b)) (h2 : w.cell? ⟨g, off + 2, none⟩ = some (.int .i64 n))
    (h3 : w.cell? ⟨g, off + 3, none⟩ = some (.string t)) (h4 : w.cell? ⟨g, off + 4, none⟩ = some (.string x)) (h5 : w.cell? ⟨g, off + 5, none⟩ = some L)
    (hgd : o.guard = none) (ho : o.op = .load 28 y) (hx : a.eval y = .pointer (some ⟨g, off, none⟩))
    (h : wpList Tryz.prog ops Q rest (a.put o.dst (.agg #[.int .i64 k, .bool b, .int .i64 n, .string t, .string x, L])) w) : wpList Tryz.prog ops Q (o :: rest) a w :=
  wpList_load_mid hgd 28 y ho g off hx [.int .i64 k, .bool b, .int .i64 n, .string t, .string x, L] _ (range6 h0 h1 h2 h3 h4 h5) Tryz.underlying28 rfl info28 h
end Go.Proofs.YtoifjjgakblhhaaGreatDoor

/- Whether each of a list may be. -/
namespace Go.Proofs.YtoifjjgakblhhaaGreatDoor
open Go.RowKit

theorem Holds.at_ {w : World} {g : Nat} : (l : List Val) → (off : Nat) → Holds w g off l → ∀ (i : Nat) (h : i < l.length), HoldsOne w g (off + i * 6) l[i]
  | [], _, _, i, h => absurd h (by simp)
  | v :: r, off, hh, i, h => by
    unfold Holds at hh
    match i, h with
    | 0, _ => rw [Nat.zero_mul]; exact hh.1
    | i + 1, h =>
      have := Holds.at_ r (off + 6) hh.2 i (by simpa using h)
      rw [show off + (i + 1) * 6 = off + 6 + i * 6 by omega]
      exact this
theorem eachP_no : (l : List Val) → (d : Nat) → ∀ (i : Nat) (h : i < l.length), mayP l[i] d = false → eachP l d = false
  | [], _, i, h, _ => absurd h (by simp)
  | v :: r, d, i, h, e => by
    unfold eachP
    match i, h with
    | 0, _ => rw [show mayP v d = false from e]; rfl
    | i + 1, h => rw [eachP_no r d i (by simpa using h) e, Bool.and_false]
theorem eachP_yes : (l : List Val) → (d : Nat) → (∀ (i : Nat) (h : i < l.length), mayP l[i] d = true) → eachP l d = true
  | [], _, _ => by unfold eachP; rfl
  | v :: r, d, e => by
    unfold eachP
    rw [show mayP v d = true from e 0 (by simp), eachP_yes r d fun i h => e (i + 1) (by simpa using h)]
    rfl

/-- What mayBe answers of a value that lies somewhere. -/
def MayBeAt (v : Val) (d : Nat) : Prop := ∀ (W : World) (k : Int) (b : Bool) (n : Int) (t x : ByteArray) (l : List Val) (L : Value), v = .mk k b n t x l → Gd W → t.size ≤ 2097152 → x.size ≤ 2097152 → Held W L l →
  Calls Tryz.prog 38 #[.agg #[.int .i64 k, .bool b, .int .i64 n, .string t, .string x, L], .int .i64 d] W fun e w' => e = .returned (.bool (mayP v d)) ∧ Below W.heap.size W w'

set_option maxHeartbeats 1600000 in
theorem allMayAt (l : List Val) (g off cap d : Nat) (w : World) (hG : Gd w) (hl : Holds w g off l) (h1 : l.length ≤ 4096) (h2 : d ≤ 60) (each : ∀ v ∈ l, MayBeAt v d) :
    Calls Tryz.prog 76 #[.slice (some ⟨g, off, none⟩) l.length cap, .int .i64 d] w fun e w' => e = .returned (.bool (eachP l d)) ∧ Below w.heap.size w w' := by
  have a1 : (l.length : Int) ≤ 4096 := by omega
  have a2 : (d : Int) ≤ 60 := by omega
  have HH := Lib.hid hl
  have HE := Lib.hid each
  clear hl each
  go_enter Tryz.func76, Tryz.ntmps76
  go_wp2_with fail
  go_loopw [16] (fun i wr => ∃ j : Nat, j ≤ l.length ∧ i = .int .i64 j ∧ Below w.heap.size w wr ∧ ∀ (i : Nat) (h : i < l.length), i < j → mayP l[i] d = true) (fun i _ => l.length - (intOf i).toNat)
  case atStart => exact ⟨0, Nat.zero_le _, rfl, Below.refl _ _, fun _ _ h => absurd h (by omega)⟩
  case round =>
    obtain ⟨j, hj, rfl, hb, hall⟩ := hrel
    have HA := Lib.hid hall
    clear hall
    by_cases hlt : j < l.length
    · have ho := (Holds.at_ l off HH.out j hlt).below _ hb
      have hev := HE.out l[j] (List.getElem_mem hlt)
      obtain ⟨k, b, n, t, x, q, ev⟩ : ∃ k b n t x q, l[j] = Val.mk k b n t x q := by cases l[j] with | mk k b n t x q => exact ⟨k, b, n, t, x, q, rfl⟩
      rw [ev] at ho
      unfold HoldsOne at ho
      obtain ⟨c0, c1, c2, c3, c4, hf, L, c5, hL⟩ := ho
      have ht := hf.ht
      have hx := hf.hx
      clear hf
      obtain ⟨p, len, cp, rfl⟩ : ∃ p len cp, L = .slice p len cp := by
        cases q with
        | nil => unfold Held at hL; obtain ⟨p, cp, e⟩ := hL; exact ⟨p, 0, cp, e⟩
        | cons v r => unfold Held at hL; obtain ⟨g', off', cp, e, _⟩ := hL; exact ⟨_, _, _, e⟩
      have gr := hG.below hb
      cases hr : mayP l[j] d with
      | true =>
        have hc := (hev (wr.alloc (.cells #[.int .i64 k, .bool b, .int .i64 n, .string t, .string x, .slice p len cp] 28)) k b n t x q (.slice p len cp) ev (gr.alloc _) ht hx (Held.below q hL (below1 _ _)))
        rw [hr] at hc
        have hs : w.heap.size ≤ wr.heap.size := hb.size
        have l0 : Six (wr.alloc (.cells #[.int .i64 k, .bool b, .int .i64 n, .string t, .string x, .slice p len cp] 28)) wr.heap.size k b n t x p len cp := six_new _ rfl
        have b0 : Below w.heap.size w (wr.alloc (.cells #[.int .i64 k, .bool b, .int .i64 n, .string t, .string x, .slice p len cp] 28)) := hb.alloc hs _
        have z0 : w.heap.size ≤ (wr.alloc (.cells #[.int .i64 k, .bool b, .int .i64 n, .string t, .string x, .slice p len cp] 28)).heap.size := by have := l0.lt; omega
        go_wp2_with (first
          | ((with_reducible refine wpList_loadMid6 (.tmp 18) g (off + j * 6) k b n t x (.slice p len cp) c0 c1 c2 c3 c4 c5 ?_ ?_ ?_ ?_); rfl; rfl; rfl)
          | ((with_reducible refine wpList_load6 (.tmp 6) wr.heap.size l0 ?_ ?_ ?_ ?_); rfl; rfl; rfl)
          | (go_at_call 38; (with_reducible refine hc.mono ?_); rintro e w3 ⟨rfl, hb3⟩; have b3 := below_any b0 hb3 z0))
        go_roundw
        case rel =>
          refine ⟨j + 1, by omega, by go_num, b3, fun i hi hlt' => ?_⟩
          by_cases e : i = j
          · subst e; exact hr
          · exact HA.out i hi (by omega)
        case measure => simp [intOf]; omega
      | false =>
        have hc := (hev (wr.alloc (.cells #[.int .i64 k, .bool b, .int .i64 n, .string t, .string x, .slice p len cp] 28)) k b n t x q (.slice p len cp) ev (gr.alloc _) ht hx (Held.below q hL (below1 _ _)))
        rw [hr] at hc
        have hs : w.heap.size ≤ wr.heap.size := hb.size
        have l0 : Six (wr.alloc (.cells #[.int .i64 k, .bool b, .int .i64 n, .string t, .string x, .slice p len cp] 28)) wr.heap.size k b n t x p len cp := six_new _ rfl
        have b0 : Below w.heap.size w (wr.alloc (.cells #[.int .i64 k, .bool b, .int .i64 n, .string t, .string x, .slice p len cp] 28)) := hb.alloc hs _
        have z0 : w.heap.size ≤ (wr.alloc (.cells #[.int .i64 k, .bool b, .int .i64 n, .string t, .string x, .slice p len cp] 28)).heap.size := by have := l0.lt; omega
        go_wp2_with (first
          | ((with_reducible refine wpList_loadMid6 (.tmp 18) g (off + j * 6) k b n t x (.slice p len cp) c0 c1 c2 c3 c4 c5 ?_ ?_ ?_ ?_); rfl; rfl; rfl)
          | ((with_reducible refine wpList_load6 (.tmp 6) wr.heap.size l0 ?_ ?_ ?_ ?_); rfl; rfl; rfl)
          | (go_at_call 38; (with_reducible refine hc.mono ?_); rintro e w3 ⟨rfl, hb3⟩; have b3 := below_any b0 hb3 z0))
        go_ret
        exact ⟨by rw [eachP_no l d j hlt hr]; rfl, b3⟩
    · go_wp2_with fail
      go_ret
      exact ⟨by rw [eachP_yes l d fun i h => HA.out i h (by omega)]; rfl, hb⟩
end Go.Proofs.YtoifjjgakblhhaaGreatDoor

/- Whether a value may be: the program's answer, for values in one another. -/
namespace Go.Proofs.YtoifjjgakblhhaaGreatDoor
open Go.RowKit

theorem held_slice {W : World} {L : Value} {l : List Val} (h : Held W L l) : ∃ p cap, L = .slice p l.length cap := by
  cases l with
  | nil => unfold Held at h; exact h
  | cons v r => unfold Held at h; obtain ⟨g, off, cap, e, _⟩ := h; exact ⟨_, cap, e⟩

theorem allBig (p : Option Addr) (len cap : Nat) (d : Int) (w : World) (h : (4096 : Int) < len) :
    Calls Tryz.prog 76 #[.slice p len cap, .int .i64 d] w fun e w' => e = .returned (.bool false) ∧ Below w.heap.size w w' := by
  go_enter Tryz.func76, Tryz.ntmps76
  go_wp2_with fail
  go_ret
  exact ⟨rfl, Below.refl _ _⟩
theorem allDeep (p : Option Addr) (len cap : Nat) (d : Int) (w : World) (h : ¬ (4096 : Int) < len) (h2 : 60 < d) :
    Calls Tryz.prog 76 #[.slice p len cap, .int .i64 d] w fun e w' => e = .returned (.bool false) ∧ Below w.heap.size w w' := by
  go_enter Tryz.func76, Tryz.ntmps76
  go_wp2_with fail
  go_ret
  exact ⟨rfl, Below.refl _ _⟩
theorem allNone (p : Option Addr) (cap : Nat) (d : Int) (w : World) (h2 : ¬ 60 < d) :
    Calls Tryz.prog 76 #[.slice p 0 cap, .int .i64 d] w fun e w' => e = .returned (.bool true) ∧ Below w.heap.size w w' := by
  go_enter Tryz.func76, Tryz.ntmps76
  go_wp2_with fail
  go_loopw [16] (fun i wr => i = .int .i64 0 ∧ wr = w) (fun _ _ => 0)
  case atStart => exact ⟨rfl, rfl⟩
  case round =>
    obtain ⟨rfl, rfl⟩ := hrel
    go_wp2_with fail
    go_ret
    exact ⟨rfl, Below.refl _ _⟩

theorem allAny (l : List Val) (L : Value) (d : Nat) (w : World) (hG : Gd w) (hl : Held w L l) (each : d ≤ 60 → ∀ v ∈ l, MayBeAt v d) :
    Calls Tryz.prog 76 #[L, .int .i64 d] w fun e w' => e = .returned (.bool (decide (l.length ≤ 4096) && decide (d ≤ 60) && eachP l d)) ∧ Below w.heap.size w w' := by
  obtain ⟨p, cap, rfl⟩ := held_slice hl
  by_cases h1 : l.length ≤ 4096
  · rw [decide_eq_true h1, Bool.true_and]
    by_cases h2 : d ≤ 60
    · rw [decide_eq_true h2, Bool.true_and]
      cases l with
      | nil =>
        unfold eachP
        exact allNone p cap d w (by omega)
      | cons v r =>
        unfold Held at hl
        obtain ⟨g, off, cap', e, hv, hr⟩ := hl
        cases e
        refine allMayAt (v :: r) g off cap d w hG ?_ h1 h2 (each h2)
        unfold Holds
        exact ⟨hv, hr⟩
    · rw [decide_eq_false h2, Bool.false_and]
      exact allDeep p _ cap d w (by omega) (by omega)
  · rw [decide_eq_false h1, Bool.false_and, Bool.false_and]
    exact allBig p _ cap d w (by omega)

theorem mayBe_step (d : Nat) (hd : d ≤ 60) (next : d + 1 ≤ 60 → ∀ v, MayBeAt v (d + 1)) (v : Val) : MayBeAt v d := by
  intro W k b n t x l L e hG ht hx hL
  subst e
  obtain ⟨p, cap, rfl⟩ := held_slice hL
  unfold mayP
  refine mayBeOf k b n t x p l.length cap d W _ hG (by omega) (by omega) (by omega) (by omega) fun _ W' hb => ?_
  have := allAny l _ (d + 1) W' (hG.below hb) (Held.below l hL hb) fun h v _ => next h v
  simpa using this
theorem mayBeAll : ∀ (m d : Nat), m + d = 60 → ∀ v, MayBeAt v d
  | 0, d, e, v => mayBe_step d (by omega) (fun h => absurd h (by omega)) v
  | m + 1, d, e, v => mayBe_step d (by omega) (fun _ => mayBeAll m (d + 1) (by omega)) v

/-- Check answers mayP, of any value that lies whole in memory. -/
theorem checkAtV (v : Val) (k : Int) (b : Bool) (n : Int) (t x : ByteArray) (l : List Val) (L : Value) (W : World) (e : v = .mk k b n t x l) (hG : Gd W) (ht : t.size ≤ 2097152) (hx : x.size ≤ 2097152) (hL : Held W L l) :
    Calls Tryz.prog 13 #[.agg #[.int .i64 k, .bool b, .int .i64 n, .string t, .string x, L]] W fun e w' => e = .returned (.bool (mayP v 0)) ∧ Below W.heap.size W w' := by
  obtain ⟨p, cap, rfl⟩ := held_slice hL
  have l0 : Six (W.alloc (.cells #[.int .i64 k, .bool b, .int .i64 n, .string t, .string x, .slice p l.length cap] 28)) W.heap.size k b n t x p l.length cap := six_new _ rfl
  have b0 := below1 W (.cells #[.int .i64 k, .bool b, .int .i64 n, .string t, .string x, .slice p l.length cap] 28)
  have hc : Calls Tryz.prog 38 #[.agg #[.int .i64 k, .bool b, .int .i64 n, .string t, .string x, .slice p l.length cap], .int .i64 0] (W.alloc (.cells #[.int .i64 k, .bool b, .int .i64 n, .string t, .string x, .slice p l.length cap] 28)) _ :=
    mayBeAll 60 0 rfl v _ k b n t x l _ e (hG.alloc _) ht hx (Held.below l hL b0)
  go_enter Tryz.func13, Tryz.ntmps13
  go_wp2_with (first
    | ((with_reducible refine wpList_load6 (.tmp 1) W.heap.size l0 ?_ ?_ ?_ ?_); rfl; rfl; rfl)
    | (go_at_call 38; (with_reducible refine hc.mono ?_); rintro e w' ⟨rfl, hb⟩; have b3 := below_any b0 hb (Nat.le_of_lt l0.lt)))
  go_ret
  exact ⟨by first | rfl | (subst e; rfl), b3⟩
end Go.Proofs.YtoifjjgakblhhaaGreatDoor

/- powerOfTen, digit, put. -/
namespace Go.Proofs.YtoifjjgakblhhaaGreatDoor
open Go.RowKit

/-- Powers of ten behind a name. -/
def ten (e : Nat) : Nat := 10 ^ e

set_option maxHeartbeats 400000 in
theorem powTen (e : Int) (w : World) (h0 : 0 ≤ e) (h9 : e ≤ 8) :
    Calls Tryz.prog 200 #[.int .i64 e] w fun r w' => r = .returned (.int .u32 (ten e.toNat)) ∧ Below w.heap.size w w' := by
  have he : e = 0 ∨ e = 1 ∨ e = 2 ∨ e = 3 ∨ e = 4 ∨ e = 5 ∨ e = 6 ∨ e = 7 ∨ e = 8 := by omega
  rcases he with rfl | rfl | rfl | rfl | rfl | rfl | rfl | rfl | rfl
  all_goals
    go_enter Tryz.func200, Tryz.ntmps200
    go_wp2
    go_ret
    exact ⟨by simp [ten], (Below.refl _ _).alloc (Nat.le_refl _) _⟩

/-- What is loaded, at every world of the region. -/
def Holds1 (b o : Nat) (v : Value) (w : World) : Prop := w.cell? ⟨b, o, none⟩ = some v ∧ w.frozen? ⟨b, o, none⟩ = false ∧ b < w.heap.size
theorem Holds1.below {b o : Nat} {v : Value} {w w' : World} (h : Holds1 b o v w) (k : Below w.heap.size w w') : Holds1 b o v w' :=
  ⟨(k.cell (p := ⟨b, o, none⟩) h.2.2).trans h.1, (k.frozen (p := ⟨b, o, none⟩) h.2.2).trans h.2.1, Nat.lt_of_lt_of_le h.2.2 k.size⟩

end Go.Proofs.YtoifjjgakblhhaaGreatDoor

/- digit. -/
namespace Go.Proofs.YtoifjjgakblhhaaGreatDoor
open Go.RowKit

theorem powTenT (t e : Int) (w : World) (h0 : 0 ≤ e) (h9 : e ≤ 8) (H : Hid (t = ten e.toNat)) :
    Calls Tryz.prog 200 #[.int .i64 e] w fun r w' => r = .returned (.int .u32 t) ∧ Below w.heap.size w w' := by
  rw [H.out]; exact powTen e w h0 h9

theorem keep1 {b : Nat} {a : Addr} {v : Value} {W w w' : World} (h : w.cell? a = some v ∧ b < w.heap.size ∧ Below b W w) (ha : a.block = b) (k : Below w.heap.size w w') :
    w'.cell? a = some v ∧ b < w'.heap.size ∧ Below b W w' :=
  ⟨(k.cell (p := a) (by rw [ha]; exact h.2.1)).trans h.1, Nat.lt_of_lt_of_le h.2.1 k.size, h.2.2.trans (k.mono (Nat.le_of_lt h.2.1))⟩

set_option maxHeartbeats 400000 in
theorem digitAt (c : Array Value) (n : Bool) (f : Nat → Nat) (p : Int) (w : World) (hc : IsNum c n f) (hp0 : 0 ≤ p) (hp : p ≤ 143) :
    Calls Tryz.prog 185 #[.agg c, .int .i64 p] w fun e w' => e = .returned (.int .u8 (48 + (f (p.toNat / 9) / ten (p.toNat % 9) % 10 : Nat))) ∧ Below w.heap.size w w' := by
  go_enter Tryz.func185, Tryz.ntmps185
  go_wp2_with fail
  have hj : (p / 9).toNat < 16 := by omega
  have hp9 : p / 9 < 16 := by omega
  have hp8 : 0 ≤ p / 9 := by omega
  have hx : (w.alloc (.cells c 136)).cell? ⟨w.heap.size, 1 + (p / 9).toNat, none⟩ = some (.int .u32 (f (p / 9).toNat)) := cell_of (heap_new _ _ rfl) _ (hc.word _ hj)
  have hlt : f (p / 9).toNat < 1000000000 := hc.lt _ hj
  have hsz : w.heap.size < (w.alloc (.cells c 136)).heap.size := by simp
  have hb0 : Below w.heap.size w (w.alloc (.cells c 136)) := (Below.refl _ _).alloc (Nat.le_refl _) _
  generalize w.alloc (.cells c 136) = W at *
  have m0 : 0 ≤ p % 9 := by omega
  have m8 : p % 9 ≤ 8 := by omega
  obtain ⟨x, hx'⟩ : ∃ x : Int, x = f (p / 9).toNat := ⟨_, rfl⟩
  have hx0 : 0 ≤ x := by omega
  have hx9 : x < 1000000000 := by omega
  rw [← hx'] at hx
  obtain ⟨t, ht⟩ : ∃ t : Int, t = ten (p % 9).toNat := ⟨_, rfl⟩
  have ht1 : 1 ≤ t := by rw [ht]; unfold ten; have := Nat.pow_pos (n := (p % 9).toNat) (show 0 < 10 by omega); omega
  have hq0 : 0 ≤ x / t := Int.ediv_nonneg hx0 (by omega)
  have hq : x / t < 1000000000 := by have := Int.ediv_le_self t hx0; omega
  have HT := Lib.hid ht
  have HX := Lib.hid hx'
  clear ht hx'
  obtain ⟨q, hq'⟩ : ∃ q : Int, q = x / t := ⟨_, rfl⟩
  rw [← hq'] at hq hq0
  have n0 : (t == 0) = false := by simp; omega
  have n1 : ¬ t = 0 := by omega
  have e5 : IntKind.u32.wrap q = q := IntWalk.u32_in _ (by omega)
  have e7 : IntKind.u32.wrap (q % 10) = q % 10 := IntWalk.u32_in _ (by omega)
  have e8 : IntKind.u8.wrap (q % 10) = q % 10 := IntWalk.u8_in _ (by omega)
  have e9 : IntKind.u8.wrap (48 + q % 10) = 48 + q % 10 := IntWalk.u8_in _ (by omega)
  have e3 : IntKind.i64.wrap (p / 9) = p / 9 := IntWalk.i64_in _ (by omega)
  have e6 : q.tmod 10 = q % 10 := Int.tmod_eq_emod_of_nonneg hq0
  have e1 : p.tdiv 9 = p / 9 := Int.tdiv_eq_ediv_of_nonneg hp0
  have e2 : p.tmod 9 = p % 9 := Int.tmod_eq_emod_of_nonneg hp0
  have e4 : x.tdiv t = q := by rw [hq']; exact Int.tdiv_eq_ediv_of_nonneg hx0
  have HQ := Lib.hid hq'
  clear hq'
  go_region_held3 (fun w' => w'.cell? ⟨w.heap.size, 1 + (p / 9).toNat, none⟩ = some (.int .u32 x) ∧ w.heap.size < w'.heap.size ∧ Below w.heap.size W w') (first | exact ⟨hx, hsz, (Below.refl _ _).drew⟩ | exact keep1 (by assumption) rfl (by assumption) | go_keep)
    (first | (go_at_call 200; refine (powTenT t (p % 9) _ m0 m8 HT).mono ?_; rintro e w' ⟨rfl, hbel⟩))
  go_wp2
  go_ret
  refine ⟨?_, ?_⟩
  · have h1 := HX.out
    have h2 := HT.out
    have h3 := HQ.out
    have g1 : p.toNat / 9 = (p / 9).toNat := by omega
    have g2 : p.toNat % 9 = (p % 9).toNat := by clear e1 e2 e3; omega
    rw [g1, g2]
    show Ending.returned (.int .u8 (48 + q % 10)) = _
    rw [h3, h1, h2]
    rfl
  · exact below_any hb0.drew hbel (Nat.le_of_lt hsz)
theorem digitBelow (c : Array Value) (p : Int) (w : World) (hp : p < 0) :
    Calls Tryz.prog 185 #[.agg c, .int .i64 p] w fun e w' => e = .returned (.int .u8 48) ∧ Below w.heap.size w w' := by
  go_enter Tryz.func185, Tryz.ntmps185
  go_wp2
  go_ret
  exact ⟨rfl, (Below.refl _ _).alloc (Nat.le_refl _) _⟩

end Go.Proofs.YtoifjjgakblhhaaGreatDoor

/- put: a digit laid at its place. -/
namespace Go.Proofs.YtoifjjgakblhhaaGreatDoor
open Go.RowKit

set_option maxHeartbeats 400000 in
theorem putAt (b : Nat) (c : Array Value) (n : Bool) (f : Nat → Nat) (p d : Int) (w : World) (hb : w.heap[b]? = some (.cells c 136)) (hc : IsNum c n f)
    (hp0 : 0 ≤ p) (hp : p ≤ 143) (hd0 : 48 ≤ d) (hd : d ≤ 57) (hroom : (f (p / 9).toNat : Int) + (d - 48) * ten (p % 9).toNat < 1000000000) :
    Calls Tryz.prog 175 #[.pointer (some ⟨b, 0, none⟩), .int .i64 p, .int .u8 d] w fun e w' => e = .returned (.tuple #[]) ∧ Only b w w' ∧
      ∃ c', w'.heap[b]? = some (.cells c' 136) ∧ IsNum c' n (upd f (p / 9).toNat (f (p / 9).toNat + (d - 48).toNat * ten (p % 9).toNat)) := by
  have hsz := lt_of_heap hb
  have hj : (p / 9).toNat < 16 := by omega
  have hp9 : p / 9 < 16 := by omega
  have hp8 : 0 ≤ p / 9 := by omega
  have hx : w.cell? ⟨b, 1 + (p / 9).toNat, none⟩ = some (.int .u32 (f (p / 9).toNat)) := cell_of hb _ (hc.word _ hj)
  have hf : w.frozen? ⟨b, 1 + (p / 9).toNat, none⟩ = false := free_of hb _
  have hlt : f (p / 9).toNat < 1000000000 := hc.lt _ hj
  have m0 : 0 ≤ p % 9 := by omega
  have m8 : p % 9 ≤ 8 := by omega
  obtain ⟨x, hx'⟩ : ∃ x : Int, x = f (p / 9).toNat := ⟨_, rfl⟩
  have hx0 : 0 ≤ x := by omega
  have hx9 : x < 1000000000 := by omega
  rw [← hx'] at hx
  obtain ⟨t, ht⟩ : ∃ t : Int, t = ten (p % 9).toNat := ⟨_, rfl⟩
  rw [← hx', ← ht] at hroom
  have ht1 : 1 ≤ t := by rw [ht]; unfold ten; have := Nat.pow_pos (n := (p % 9).toNat) (show 0 < 10 by omega); omega
  obtain ⟨y, hy⟩ : ∃ y : Int, y = (d - 48) * t := ⟨_, rfl⟩
  have hy0 : 0 ≤ y := by rw [hy]; exact Int.mul_nonneg (by omega) (by omega)
  rw [← hy] at hroom
  have HT := Lib.hid ht
  have HX := Lib.hid hx'
  clear ht hx'
  have e5 : IntKind.u8.wrap (d - 48) = d - 48 := IntWalk.u8_in _ (by omega)
  have e6 : IntKind.u32.wrap (d - 48) = d - 48 := IntWalk.u32_in _ (by omega)
  have e7 : IntKind.u32.wrap y = y := IntWalk.u32_in _ (by omega)
  have e8 : IntKind.u32.wrap (x + y) = x + y := IntWalk.u32_in _ (by omega)
  have e3 : IntKind.i64.wrap (p / 9) = p / 9 := IntWalk.i64_in _ (by omega)
  have e1 : p.tdiv 9 = p / 9 := Int.tdiv_eq_ediv_of_nonneg hp0
  have e2 : p.tmod 9 = p % 9 := Int.tmod_eq_emod_of_nonneg hp0
  have e4 : (d - 48) * t = y := hy.symm
  have HY := Lib.hid hy
  clear hy
  go_enter Tryz.func175, Tryz.ntmps175
  go_wp2_with fail
  go_region_with (go_at_call 200; refine (powTenT t (p % 9) _ m0 m8 HT).mono ?_; rintro e w' ⟨rfl, hbel⟩; have hx2 := (hbel.cell (p := ⟨b, 1 + (p / 9).toNat, none⟩) hsz).trans hx; have hf2 := (hbel.frozen (p := ⟨b, 1 + (p / 9).toNat, none⟩) hsz).trans hf)
  all_goals
    go_wp2
    go_end0
    have hv : x + y = ((f (p / 9).toNat + (d - 48).toNat * ten (p % 9).toNat : Nat) : Int) := by
      rw [HX.out, HY.out, HT.out, Int.natCast_add, Int.natCast_mul, Int.toNat_of_nonneg (by omega)]
    have hw1 : w'.heap[b]? = some (.cells c 136) := (hbel.block b hsz).trans hb
    refine ⟨rfl, ((Only.refl b w).drew.trans (Only.of_below (b := b) hbel)).setCell _ _ _, _, heap_set hw1 _ _, ?_⟩
    have hval : f (p / 9).toNat + (d - 48).toNat * ten (p % 9).toNat < BASE := by unfold BASE; omega
    rw [hv]
    exact hc.set hj hval
end Go.Proofs.YtoifjjgakblhhaaGreatDoor

/- Digits and what they say; the two ways round between numbers and their texts. No Go stands here. -/
namespace Go.Proofs.YtoifjjgakblhhaaGreatDoor

/-- What digits say. -/
def valD : List UInt8 → Nat
  | [] => 0
  | c :: r => (c.toNat - 48) * 10 ^ r.length + valD r

theorem valD_append (l r : List UInt8) : valD (l ++ r) = valD l * 10 ^ r.length + valD r := by
  induction l with
  | nil => simp [valD]
  | cons c l ih =>
    simp only [List.cons_append, valD, ih, List.length_append, Nat.pow_add, Nat.add_mul]
    rw [← Nat.mul_assoc]; omega

theorem dig_le {c : UInt8} (h : isDig c = true) : 48 ≤ c.toNat ∧ c.toNat ≤ 57 := by
  have := (isDig_iff c).1 h; omega

theorem valD_lt (l : List UInt8) (h : l.all isDig = true) : valD l < 10 ^ l.length := by
  induction l with
  | nil => simp [valD]
  | cons c l ih =>
    simp only [List.all_cons, Bool.and_eq_true] at h
    have := dig_le h.1
    have ih := ih h.2
    have : (c.toNat - 48) * 10 ^ l.length ≤ 9 * 10 ^ l.length := Nat.mul_le_mul_right _ (by omega)
    simp only [valD, List.length_cons, Nat.pow_succ]
    omega

theorem eq_of_val : ∀ (a b : List UInt8), a.all isDig = true → b.all isDig = true → a.length = b.length → valD a = valD b → a = b
  | [], [], _, _, _, _ => rfl
  | [], _ :: _, _, _, h, _ => by simp at h
  | _ :: _, [], _, _, h, _ => by simp at h
  | c :: a, d :: b, ha, hb, hl, hv => by
    simp only [List.all_cons, Bool.and_eq_true] at ha hb
    have hl' : a.length = b.length := by simpa using hl
    have l1 := valD_lt a ha.2
    have l2 := valD_lt b hb.2
    have c1 := dig_le ha.1
    have c2 := dig_le hb.1
    simp only [valD] at hv
    rw [← hl'] at hv l2
    have key : c.toNat - 48 = d.toNat - 48 ∧ valD a = valD b := by
      generalize c.toNat - 48 = p at *
      generalize d.toNat - 48 = q at *
      generalize 10 ^ a.length = B at *
      rcases Nat.lt_trichotomy p q with h | h | h
      · have : (p + 1) * B ≤ q * B := Nat.mul_le_mul_right _ h
        rw [Nat.add_mul, Nat.one_mul] at this
        omega
      · subst h; exact ⟨rfl, by omega⟩
      · have : (q + 1) * B ≤ p * B := Nat.mul_le_mul_right _ h
        rw [Nat.add_mul, Nat.one_mul] at this
        omega
    have : c = d := UInt8.toNat_inj.1 (by omega)
    rw [this, eq_of_val a b ha.2 hb.2 hl' key.2]

/-- The digit of N at place p. -/
def digAt (N p : Nat) : UInt8 := UInt8.ofNat (48 + N / 10 ^ p % 10)
/-- The n digits of N from place lo on, the highest first. -/
def digsOf (N lo : Nat) : Nat → List UInt8
  | 0 => []
  | n + 1 => digAt N (lo + n) :: digsOf N lo n

theorem digAt_toNat (N p : Nat) : (digAt N p).toNat = 48 + N / 10 ^ p % 10 := by
  unfold digAt
  have : N / 10 ^ p % 10 < 10 := Nat.mod_lt _ (by omega)
  rw [UInt8.toNat_ofNat']
  omega
theorem digAt_dig (N p : Nat) : isDig (digAt N p) = true := by
  rw [isDig_iff, digAt_toNat]
  have : N / 10 ^ p % 10 < 10 := Nat.mod_lt _ (by omega)
  omega
theorem digsOf_len (N lo n : Nat) : (digsOf N lo n).length = n := by
  induction n with
  | zero => rfl
  | succ n ih => simp [digsOf, ih]
theorem digsOf_dig (N lo n : Nat) : (digsOf N lo n).all isDig = true := by
  induction n with
  | zero => rfl
  | succ n ih => simp [digsOf, ih, digAt_dig]
theorem digsOf_val (N lo n : Nat) : valD (digsOf N lo n) = N / 10 ^ lo % 10 ^ n := by
  induction n with
  | zero => simp [digsOf, valD, Nat.mod_one]
  | succ n ih =>
    simp only [digsOf, valD, ih, digsOf_len, digAt_toNat]
    rw [Nat.pow_add, ← Nat.div_div_eq_div_mul, Nat.add_sub_cancel_left, Nat.pow_succ]
    generalize N / 10 ^ lo = M
    rw [Nat.mod_mul, Nat.mul_comm (M / 10 ^ n % 10)]
    omega

theorem rep_dig (k : Nat) : (List.replicate k (48 : UInt8)).all isDig = true := by
  induction k with
  | zero => rfl
  | succ k ih => rw [List.replicate_succ, List.all_cons, ih]; rfl
theorem rep_val (k : Nat) : valD (List.replicate k (48 : UInt8)) = 0 := by
  induction k with
  | zero => rfl
  | succ k ih => rw [List.replicate_succ]; simp [valD, ih]

theorem trimL_rep (k : Nat) (l : List UInt8) : Lib.trimLeftB (List.replicate k 48 ++ l) 48 = Lib.trimLeftB l 48 := by
  unfold Lib.trimLeftB
  induction k with
  | zero => simp
  | succ k ih => rw [List.replicate_succ, List.cons_append, List.dropWhile_cons, if_pos (by simp)]; exact ih
theorem trimR_rep (k : Nat) (l : List UInt8) : Lib.trimRightB (l ++ List.replicate k 48) 48 = Lib.trimRightB l 48 := by
  have := trimL_rep k l.reverse
  unfold Lib.trimLeftB at this
  unfold Lib.trimRightB
  rw [List.reverse_append, List.reverse_replicate, this]

/-- The text of N scaled by 10 ^ 54. -/
def wrN (neg : Bool) (N : Nat) : Option (List UInt8) := wr neg (digsOf N 54 90) (digsOf N 0 54)

theorem trimL_val (a b : List UInt8) (ha : a.all isDig = true) (hb : b.all isDig = true) (hv : valD a = valD b) : Lib.trimLeftB a 48 = Lib.trimLeftB b 48 := by
  rcases Nat.le_total a.length b.length with h | h
  · rw [← trimL_rep (b.length - a.length) a]
    congr 1
    exact eq_of_val _ _ (by rw [List.all_append, rep_dig, ha]; rfl) hb (by simp; omega) (by rw [valD_append, rep_val]; omega)
  · rw [← trimL_rep (a.length - b.length) b]
    congr 1
    exact eq_of_val _ _ ha (by rw [List.all_append, rep_dig, hb]; rfl) (by simp; omega) (by rw [valD_append, rep_val]; omega)
theorem trimR_val (a b : List UInt8) (ha : a.all isDig = true) (hb : b.all isDig = true) (n : Nat) (la : a.length ≤ n) (lb : b.length ≤ n) (hv : valD a * 10 ^ (n - a.length) = valD b * 10 ^ (n - b.length)) : Lib.trimRightB a 48 = Lib.trimRightB b 48 := by
  rw [← trimR_rep (n - a.length) a, ← trimR_rep (n - b.length) b]
  congr 1
  exact eq_of_val _ _ (by rw [List.all_append, rep_dig, ha]; rfl) (by rw [List.all_append, rep_dig, hb]; rfl) (by simp; omega) (by rw [valD_append, valD_append, rep_val, rep_val, List.length_replicate, List.length_replicate]; omega)

theorem wr_congr (neg : Bool) {a a' b b' : List UInt8} (h : Lib.trimLeftB a 48 = Lib.trimLeftB a' 48) (k : Lib.trimRightB b 48 = Lib.trimRightB b' 48) : wr neg a b = wr neg a' b' := by
  unfold wr; rw [h, k]

/-- Digits, however many noughts are needless, are written as their number is. -/
theorem wr_wrN (neg : Bool) (a b : List UInt8) (ha : a.all isDig = true) (hb : b.all isDig = true) (hv : valD a < 10 ^ 90) (lb : b.length ≤ 54) :
    wr neg a b = wrN neg (valD a * 10 ^ 54 + valD b * 10 ^ (54 - b.length)) := by
  have hlt : valD b * 10 ^ (54 - b.length) < 10 ^ 54 := by
    have h1 := valD_lt b hb
    have h2 : 10 ^ b.length * 10 ^ (54 - b.length) = 10 ^ 54 := by rw [← Nat.pow_add]; congr 1; omega
    have h3 : valD b * 10 ^ (54 - b.length) < 10 ^ b.length * 10 ^ (54 - b.length) := Nat.mul_lt_mul_of_pos_right h1 (Nat.pow_pos (by omega))
    omega
  unfold wrN
  refine wr_congr neg (trimL_val _ _ ha (digsOf_dig _ _ _) ?_) (trimR_val _ _ hb (digsOf_dig _ _ _) 54 lb (by rw [digsOf_len]; omega) ?_)
  · rw [digsOf_val, Nat.mul_comm, Nat.mul_add_div (Nat.pow_pos (by omega)), Nat.div_eq_of_lt hlt, Nat.add_zero, Nat.mod_eq_of_lt hv]
  · rw [digsOf_val, digsOf_len, Nat.sub_self, Nat.pow_zero, Nat.mul_one, Nat.div_one, Nat.add_comm, Nat.add_mul_mod_self_right, Nat.mod_eq_of_lt hlt]

end Go.Proofs.YtoifjjgakblhhaaGreatDoor
