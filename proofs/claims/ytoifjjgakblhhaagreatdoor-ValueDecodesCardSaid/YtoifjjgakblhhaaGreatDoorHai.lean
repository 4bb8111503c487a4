/- Texts of one kind, one behind the other: each says ahead of itself what it shows. -/
import Derived.Test.YtoifjjgakblhhaaGreatDoorHae
import Derived.Test.YtoifjjgakblhhaaGreatDoorHah
import Derived.Test.YtoifjjgakblhhaaGreatDoorHaf
import Derived.Deep.RegionHeld3
import Derived.Deep.RegionWith
/- A list of values that came in: where it lies, what it is, and how much of it there is. -/
namespace Go.Proofs.YtoifjjgakblhhaaGreatDoor
open Go.RowKit Go.ChangeShapes
variable {H : Type} {enc : TypeId × Value → H}

theorem value_of_trodW {W : World} {n : Nat} {cs : List Value} {y : DataW H × List MemPlace} (h : DataW.trod enc Tryz.prog W 0 (fun _ => true) true n 28 cs = some y) :
    ∃ n' k b m t x L yl, n = n' + 1 ∧ cs = [.int .i64 k, .bool b, .int .i64 m, .string t, .string x, L] ∧ DataW.trod enc Tryz.prog W 0 (fun _ => true) true n' 22 [L] = some yl ∧
      1 + t.size + x.size + Rows.uptoBulk yl.1 ≤ Rows.uptoBulk y.1 ∧ (Lit.int .i64 m).wf = true := by
  obtain ⟨xs, n', rfl, rfl, hl, hlen, hf⟩ := DataW.trod_struct Tryz.underlying28 h
  obtain ⟨c0, c1, c2, c3, c4, c5, rfl⟩ := list6 (hl.trans (by kernel_rfl : Tryz.prog.cellsOf 28 = 6))
  obtain ⟨y0, y1, y2, y3, y4, y5, rfl⟩ := list6 (hlen.trans rfl)
  have e1 : Tryz.prog.cellsOf 3 = 1 := by kernel_rfl
  have e2 : Tryz.prog.cellsOf 4 = 1 := by kernel_rfl
  have e3 : Tryz.prog.cellsOf 2 = 1 := by kernel_rfl
  have e4 : Tryz.prog.cellsOf 9 = 1 := by kernel_rfl
  have e5 : Tryz.prog.cellsOf 22 = 1 := by kernel_rfl
  have h0 : DataW.trod enc Tryz.prog W 0 (fun _ => true) true n' 3 (([c0, c1, c2, c3, c4, c5].drop 0).take (Tryz.prog.cellsOf 3)) = [y0, y1, y2, y3, y4, y5][0]? := hf 0 _ rfl
  have h1 : DataW.trod enc Tryz.prog W 0 (fun _ => true) true n' 4 (([c0, c1, c2, c3, c4, c5].drop 1).take (Tryz.prog.cellsOf 4)) = [y0, y1, y2, y3, y4, y5][1]? := hf 1 _ rfl
  have h2 : DataW.trod enc Tryz.prog W 0 (fun _ => true) true n' 2 (([c0, c1, c2, c3, c4, c5].drop 2).take (Tryz.prog.cellsOf 2)) = [y0, y1, y2, y3, y4, y5][2]? := hf 2 _ rfl
  have h3 : DataW.trod enc Tryz.prog W 0 (fun _ => true) true n' 9 (([c0, c1, c2, c3, c4, c5].drop 3).take (Tryz.prog.cellsOf 9)) = [y0, y1, y2, y3, y4, y5][3]? := hf 3 _ rfl
  have h4 : DataW.trod enc Tryz.prog W 0 (fun _ => true) true n' 9 (([c0, c1, c2, c3, c4, c5].drop 4).take (Tryz.prog.cellsOf 9)) = [y0, y1, y2, y3, y4, y5][4]? := hf 4 _ rfl
  have h5 : DataW.trod enc Tryz.prog W 0 (fun _ => true) true n' 22 (([c0, c1, c2, c3, c4, c5].drop 5).take (Tryz.prog.cellsOf 22)) = [y0, y1, y2, y3, y4, y5][5]? := hf 5 _ rfl
  rw [e1] at h0
  rw [e2] at h1
  rw [e3] at h2
  rw [e4] at h3 h4
  rw [e5] at h5
  replace h0 : DataW.trod enc Tryz.prog W 0 (fun _ => true) true n' 3 [c0] = some y0 := h0
  replace h1 : DataW.trod enc Tryz.prog W 0 (fun _ => true) true n' 4 [c1] = some y1 := h1
  replace h2 : DataW.trod enc Tryz.prog W 0 (fun _ => true) true n' 2 [c2] = some y2 := h2
  replace h3 : DataW.trod enc Tryz.prog W 0 (fun _ => true) true n' 9 [c3] = some y3 := h3
  replace h4 : DataW.trod enc Tryz.prog W 0 (fun _ => true) true n' 9 [c4] = some y4 := h4
  replace h5 : DataW.trod enc Tryz.prog W 0 (fun _ => true) true n' 22 [c5] = some y5 := h5
  obtain ⟨k, a0, _, _⟩ := DataW.trod_int Tryz.underlying3 h0
  obtain ⟨b, a1, _⟩ := DataW.trod_bool Tryz.underlying4 h1
  obtain ⟨m, a2, _, wm⟩ := DataW.trod_int Tryz.underlying2 h2
  obtain ⟨t, a3, z3, _⟩ := DataW.trod_string Tryz.underlying9 h3
  obtain ⟨x, a4, z4, _⟩ := DataW.trod_string Tryz.underlying9 h4
  simp only [List.cons.injEq, and_true] at a0 a1 a2 a3 a4
  subst a0 a1 a2 a3 a4
  refine ⟨n', k, b, m, t, x, c5, y5, rfl, rfl, h5, ?_, wm⟩
  have a3 : Rows.uptoBulk y3.1 = t.size + 1 := by
    rw [z3]
    have e' : t.data.toList.length = t.size := Array.length_toList
    show t.data.toList.length + 1 = _
    rw [e']
  have a4 : Rows.uptoBulk y4.1 = x.size + 1 := by
    rw [z4]
    have e' : x.data.toList.length = x.size := Array.length_toList
    show x.data.toList.length + 1 = _
    rw [e']
  have a : Rows.uptoBulkAll ([y0, y1, y2, y3, y4, y5].map (·.1)) = Rows.uptoBulk y0.1 + (Rows.uptoBulk y1.1 + (Rows.uptoBulk y2.1 + (Rows.uptoBulk y3.1 + (Rows.uptoBulk y4.1 + (Rows.uptoBulk y5.1 + 0))))) := rfl
  show _ ≤ Rows.uptoBulkAll _ + 1
  rw [a, a3, a4]
  omega

set_option maxRecDepth 20000 in
theorem vals_of_trodW {W : World} (B : Nat) (hBB : B ≤ 2097152) : ∀ (N n : Nat), n ≤ N → ∀ (L : Value) (y : DataW H × List MemPlace), DataW.trod enc Tryz.prog W 0 (fun _ => true) true n 22 [L] = some y → Rows.uptoBulk y.1 ≤ B → ∃ l, Held W L l ∧ wAll l ≤ Rows.uptoBulk y.1 := by
  intro N
  induction N with
  | zero =>
    intro n hn L y h _
    obtain rfl : n = 0 := by omega
    simp [DataW.trod] at h
  | succ N IH =>
    intro n0 hn0 L y h hB
    rcases DataW.trod_slice Tryz.underlying22 h with ⟨e, _⟩ | ⟨a, len, cap, elems, rest, n1, hn, e, rfl, hb, hl, hm, hlen, hel, _, _⟩
    · obtain rfl : L = .slice none 0 0 := by simpa using e
      exact ⟨[], by unfold Held; exact ⟨none, 0, rfl⟩, by simp [wAll]⟩
    · obtain rfl : L = .slice (some a) len cap := by simpa using e
      rw [show Tryz.prog.cellsOf 28 = 6 by kernel_rfl] at hel
      have hE1 : Rows.uptoBulkAll (elems.map (·.1)) + Rows.uptoBulkAll (rest.map (·.1)) + 1 ≤ B := hB
      have hE : Rows.uptoBulkAll (elems.map (·.1)) ≤ B := by omega
      have hln : len ≤ B := by
        have := bulk_len (elems.map (·.1))
        simp only [List.length_map] at this
        omega
      have each : ∀ i, i < len → ∃ k b m t x l p, (∀ j v, [Value.int .i64 k, .bool b, .int .i64 m, .string t, .string x, p][j]? = some v → W.cell? ((a.add (i * 6)).add j) = some v) ∧ Fine m t x (List.length (α := Val) l) ∧ Held W p l ∧ ∀ h : i < elems.length, 1 + t.size + x.size + wAll l ≤ Rows.uptoBulk elems[i].1 := by
        intro i hi
        have h1 := hel i hi
        have hi' : i < elems.length := by omega
        rw [List.getElem?_eq_getElem hi', Option.bind_eq_some_iff] at h1
        obtain ⟨cs, hcs, hy⟩ := h1
        obtain ⟨c1, c2⟩ := mapM_cells hcs
        obtain ⟨n', k, b, m, t, x, p, yl, hn', rfl, hp, hpl, wm⟩ := value_of_trodW hy
        have hbe : Rows.uptoBulk elems[i].1 ≤ B := Nat.le_trans (bulk_mem (List.mem_map_of_mem (List.getElem_mem hi'))) hE
        obtain ⟨l, hheld, hll⟩ := IH n' (by omega) p yl hp (by omega)
        obtain ⟨w1, w2⟩ := i64_wf wm
        have hll2 := wAll_len l
        refine ⟨k, b, m, t, x, l, p, fun j v hv => ?_, ⟨by omega, by omega, by omega, w1, w2⟩, hheld, fun _ => by omega⟩
        have hj : j < 6 := by
          have := (List.getElem?_eq_some_iff.1 hv).1
          simpa using this
        rw [c2 j hj, hv]
      by_cases h0 : len = 0
      · subst h0
        exact ⟨[], by unfold Held; exact ⟨some a, cap, rfl⟩, by simp [wAll]⟩
      · have hsp : a.spot = none := by
          obtain ⟨k, b, m, t, x, l, p, hc, _, _, _⟩ := each 0 (by omega)
          have h0 := hc 0 _ rfl
          cases kk : a.spot with
          | none => rfl
          | some mm =>
            rw [show (a.add (0 * 6)).add 0 = a by simp [Addr.add]] at h0
            unfold World.cell? at h0
            rw [kk] at h0
            split at h0 <;> simp at h0
        obtain ⟨g, off, spot⟩ := a
        simp only at hsp
        subst hsp
        have build : ∀ m, m ≤ len → ∃ l : List Val, l.length = m ∧ Holds W g (off + (len - m) * 6) l ∧ wAll l ≤ Rows.uptoBulkAll ((elems.map (·.1)).drop (len - m)) := by
          intro m
          induction m with
          | zero => exact fun _ => ⟨[], rfl, by unfold Holds; trivial, by simp [wAll]⟩
          | succ m ih =>
            intro hm1
            obtain ⟨l, hll, hh, hwl⟩ := ih (by omega)
            obtain ⟨k, b, mm, t, x, q, p, hc, hf, hp, hwe⟩ := each (len - (m + 1)) (by omega)
            have ea : ∀ j, ((⟨g, off, none⟩ : Addr).add ((len - (m + 1)) * 6)).add j = ⟨g, off + (len - (m + 1)) * 6 + j, none⟩ := fun j => by rw [add_none, add_none]
            refine ⟨.mk k b mm t x q :: l, by simp [hll], ?_⟩
            have hi2 : len - (m + 1) < elems.length := by omega
            have hd : (elems.map (·.1)).drop (len - (m + 1)) = elems[len - (m + 1)].1 :: (elems.map (·.1)).drop (len - m) := by
              rw [List.drop_eq_getElem_cons (by simpa using hi2), List.getElem_map, show len - (m + 1) + 1 = len - m by omega]
            refine ⟨?_, ?_⟩
            rotate_left
            · rw [hd]
              have := hwe hi2
              unfold wAll wOne Rows.uptoBulkAll
              omega
            unfold Holds
            refine ⟨?_, ?_⟩
            · unfold HoldsOne
              have hcj := fun j v hv => (congrArg W.cell? (ea j)).symm.trans (hc j v hv)
              exact ⟨hcj 0 _ rfl, hcj 1 _ rfl, hcj 2 _ rfl, hcj 3 _ rfl, hcj 4 _ rfl, hf, p, hcj 5 _ rfl, hp⟩
            · rw [show off + (len - (m + 1)) * 6 + 6 = off + (len - m) * 6 by omega]
              exact hh
        obtain ⟨l, hll, hh, hwl⟩ := build len (Nat.le_refl _)
        rw [Nat.sub_self, Nat.zero_mul, Nat.add_zero] at hh
        rw [Nat.sub_self, List.drop_zero] at hwl
        refine ⟨l, ?_, by show wAll l ≤ Rows.uptoBulkAll (elems.map (·.1)) + Rows.uptoBulkAll (rest.map (·.1)) + 1; omega⟩
        cases l with
        | nil => simp at hll; omega
        | cons v r =>
          unfold Holds at hh
          unfold Held
          exact ⟨g, off, cap, by rw [← hll]; rfl, hh.1, hh.2⟩
end Go.Proofs.YtoifjjgakblhhaaGreatDoor

/- Whether two values are the same: the program's answer. -/
namespace Go.Proofs.YtoifjjgakblhhaaGreatDoor
open Go.RowKit

mutual
/-- Whether two values are the same. -/
def sameP : Val → Val → Bool
  | .mk k b n t x l, .mk k2 b2 n2 t2 x2 l2 => (k == k2) && ((b == b2) && ((n == n2) && ((t.toList == t2.toList) && ((x.toList == x2.toList) && ((l.length == l2.length) && eachSame l l2)))))
def eachSame : List Val → List Val → Bool
  | v :: r, v2 :: r2 => sameP v v2 && eachSame r r2
  | _, _ => true
end
theorem eachSame_no : (l l2 : List Val) → ∀ (i : Nat) (h : i < l.length) (h2 : i < l2.length), sameP l[i] l2[i] = false → eachSame l l2 = false
  | [], _, i, h, _, _ => absurd h (by simp)
  | _ :: _, [], i, _, h2, _ => absurd h2 (by simp)
  | v :: r, v2 :: r2, i, h, h2, e => by
    unfold eachSame
    match i, h, h2 with
    | 0, _, _ => rw [show sameP v v2 = false from e]; rfl
    | i + 1, h, h2 => rw [eachSame_no r r2 i (by simpa using h) (by simpa using h2) e, Bool.and_false]
theorem eachSame_yes : (l l2 : List Val) → (∀ (i : Nat) (h : i < l.length) (h2 : i < l2.length), sameP l[i] l2[i] = true) → eachSame l l2 = true
  | [], _, _ => by unfold eachSame; rfl
  | _ :: _, [], _ => by unfold eachSame; rfl
  | v :: r, v2 :: r2, h => by
    unfold eachSame
    rw [show sameP v v2 = true from h 0 (by simp) (by simp), Bool.true_and]
    exact eachSame_yes r r2 fun i h1 h2 => h (i + 1) (by simpa using h1) (by simpa using h2)

/-- A value's cells, and where its list lies. -/
structure Opens (w : World) (g off : Nat) (v : Val) (k : Int) (b : Bool) (n : Int) (t x : ByteArray) (q : List Val) (p : Option Addr) (cap : Nat) : Prop where
  e : v = .mk k b n t x q
  c0 : w.cell? ⟨g, off, none⟩ = some (.int .i64 k)
  c1 : w.cell? ⟨g, off + 1, none⟩ = some (.bool b)
  c2 : w.cell? ⟨g, off + 2, none⟩ = some (.int .i64 n)
  c3 : w.cell? ⟨g, off + 3, none⟩ = some (.string t)
  c4 : w.cell? ⟨g, off + 4, none⟩ = some (.string x)
  c5 : w.cell? ⟨g, off + 5, none⟩ = some (.slice p q.length cap)
  hf : Fine n t x q.length
  hl : Held w (.slice p q.length cap) q
theorem HoldsOne.opens {w : World} {g off : Nat} : {v : Val} → HoldsOne w g off v → ∃ k b n t x q p cap, Opens w g off v k b n t x q p cap
  | .mk k b n t x q, h => by
    unfold HoldsOne at h
    obtain ⟨h0, h1, h2, h3, h4, hf, L, h5, hl⟩ := h
    obtain ⟨p, cap, rfl⟩ := held_slice hl
    exact ⟨k, b, n, t, x, q, p, cap, rfl, h0, h1, h2, h3, h4, h5, hf, hl⟩
theorem Held.form {w : World} {p : Option Addr} {cap n : Nat} {v : Val} {r : List Val} (h : Held w (.slice p n cap) (v :: r)) : ∃ g off, p = some ⟨g, off, none⟩ ∧ Holds w g off (v :: r) := by
  unfold Held at h
  obtain ⟨g, off, cap', e, hv, hr⟩ := h
  cases e
  refine ⟨g, off, rfl, ?_⟩
  unfold Holds
  exact ⟨hv, hr⟩

/-- Same's contract at a value. -/
def SameAt (v : Val) : Prop := ∀ (W : World) (k : Int) (b : Bool) (n : Int) (t x : ByteArray) (q : List Val) (p : Option Addr) (cap : Nat) (v2 : Val) (k2 : Int) (b2 : Bool) (n2 : Int) (t2 x2 : ByteArray) (q2 : List Val) (p2 : Option Addr) (cap2 : Nat),
  v = .mk k b n t x q → v2 = .mk k2 b2 n2 t2 x2 q2 → q.length ≤ 2097152 → Held W (.slice p q.length cap) q → Held W (.slice p2 q2.length cap2) q2 →
  Calls Tryz.prog 17 #[.agg #[.int .i64 k, .bool b, .int .i64 n, .string t, .string x, .slice p q.length cap], .agg #[.int .i64 k2, .bool b2, .int .i64 n2, .string t2, .string x2, .slice p2 q2.length cap2]] W
    fun e w' => e = .returned (.bool (sameP v v2)) ∧ Below W.heap.size W w'

theorem eqFuncLen (p p2 : Option Addr) (n n2 cap cap2 : Nat) (w : World) (h : ¬ n = n2) :
    Calls Tryz.prog 43 #[.slice p n cap, .slice p2 n2 cap2, .func (.func 17) #[] #[]] w fun e w' => e = .returned (.bool false) ∧ Below w.heap.size w w' := by
  have h1 : ((n : Int) != n2) = true := by simp; omega
  clear h
  go_enter Tryz.func43, Tryz.ntmps43
  go_wp2_with fail
  go_ret
  exact ⟨rfl, Below.refl _ _⟩
theorem eqFuncNone (p p2 : Option Addr) (cap cap2 : Nat) (w : World) :
    Calls Tryz.prog 43 #[.slice p 0 cap, .slice p2 0 cap2, .func (.func 17) #[] #[]] w fun e w' => e = .returned (.bool true) ∧ Below w.heap.size w w' := by
  go_enter Tryz.func43, Tryz.ntmps43
  go_wp2_with fail
  go_loopw [17] (fun i wr => i = .int .i64 0 ∧ wr = w) (fun _ _ => 0)
  case atStart => exact ⟨rfl, rfl⟩
  case round =>
    obtain ⟨rfl, rfl⟩ := hrel
    go_wp2_with fail
    go_ret
    exact ⟨rfl, Below.refl _ _⟩

set_option maxHeartbeats 1600000 in
theorem eqFuncSome (l l2 : List Val) (g off cap g2 off2 cap2 : Nat) (w : World) (hl : Holds w g off l) (hl2 : Holds w g2 off2 l2) (hlen : l2.length = l.length) (hn : l.length ≤ 2097152) (each : ∀ v ∈ l, SameAt v) :
    Calls Tryz.prog 43 #[.slice (some ⟨g, off, none⟩) l.length cap, .slice (some ⟨g2, off2, none⟩) l.length cap2, .func (.func 17) #[] #[]] w fun e w' => e = .returned (.bool (eachSame l l2)) ∧ Below w.heap.size w w' := by
  have HH := Lib.hid hl
  have HH2 := Lib.hid hl2
  have HE := Lib.hid each
  have HL := Lib.hid hlen
  clear hl hl2 each hlen
  go_enter Tryz.func43, Tryz.ntmps43
  go_wp2_with fail
  go_loopw [17] (fun i wr => ∃ j : Nat, j ≤ l.length ∧ i = .int .i64 j ∧ Below w.heap.size w wr ∧ ∀ (i : Nat) (h : i < l.length) (h2 : i < l2.length), i < j → sameP l[i] l2[i] = true) (fun i _ => l.length - (intOf i).toNat)
  case atStart => exact ⟨0, Nat.zero_le _, rfl, Below.refl _ _, fun _ _ _ h => absurd h (by omega)⟩
  case round =>
    obtain ⟨j, hj, rfl, hb, hall⟩ := hrel
    have HA := Lib.hid hall
    clear hall
    by_cases hlt : j < l.length
    · have hlt2 : j < l2.length := by have := HL.out; omega
      obtain ⟨k, b, n, t, x, q, p, cp, o1⟩ := ((Holds.at_ l off HH.out j hlt).below _ hb).opens
      obtain ⟨k2, b2, n2, t2, x2, q2, p2, cp2, o2⟩ := ((Holds.at_ l2 off2 HH2.out j hlt2).below _ hb).opens
      obtain ⟨c1, hc1⟩ : ∃ c1, c1 = Obj.cells #[.int .i64 k, .bool b, .int .i64 n, .string t, .string x, .slice p q.length cp] 28 := ⟨_, rfl⟩
      obtain ⟨c2, hc2⟩ : ∃ c2, c2 = Obj.cells #[.int .i64 k2, .bool b2, .int .i64 n2, .string t2, .string x2, .slice p2 q2.length cp2] 28 := ⟨_, rfl⟩
      have bb := below2 wr c1 c2
      have hc := HE.out l[j] (List.getElem_mem hlt) ((wr.alloc c1).alloc c2) k b n t x q p cp l2[j] k2 b2 n2 t2 x2 q2 p2 cp2 o1.e o2.e o1.hf.hn (Held.below q o1.hl bb) (Held.below q2 o2.hl bb)
      obtain ⟨r, hr⟩ : ∃ r, r = sameP l[j] l2[j] := ⟨_, rfl⟩
      rw [← hr] at hc
      have l0 : Six ((wr.alloc c1).alloc c2) wr.heap.size k b n t x p q.length cp := by rw [hc1]; exact (six_new _ rfl).alloc _
      have l1 : Six ((wr.alloc c1).alloc c2) (wr.heap.size + 1) k2 b2 n2 t2 x2 p2 q2.length cp2 := by rw [hc2]; exact six_new _ (by simp)
      have hs : w.heap.size ≤ wr.heap.size := hb.size
      have b0 : Below w.heap.size w ((wr.alloc c1).alloc c2) := (hb.alloc hs _).alloc (by simp; omega) _
      have z0 : w.heap.size ≤ ((wr.alloc c1).alloc c2).heap.size := b0.size
      have oo2 : Opens (wr.alloc c1) g2 (off2 + j * 6) l2[j] k2 b2 n2 t2 x2 q2 p2 cp2 := by
        have h1 := below1 wr c1
        have hg := World.block_lt_of_cell? wr _ o2.c0
        exact ⟨o2.e, (h1.cell (p := ⟨g2, off2 + j * 6, none⟩) hg).trans o2.c0, (h1.cell (p := ⟨g2, off2 + j * 6 + 1, none⟩) hg).trans o2.c1, (h1.cell (p := ⟨g2, off2 + j * 6 + 2, none⟩) hg).trans o2.c2, (h1.cell (p := ⟨g2, off2 + j * 6 + 3, none⟩) hg).trans o2.c3,
          (h1.cell (p := ⟨g2, off2 + j * 6 + 4, none⟩) hg).trans o2.c4, (h1.cell (p := ⟨g2, off2 + j * 6 + 5, none⟩) hg).trans o2.c5, o2.hf, Held.below q2 o2.hl h1⟩
      have O1 := Lib.hid o1
      have O2 := Lib.hid oo2
      have HR := Lib.hid hr
      clear o1 o2 oo2 bb hr
      subst hc1 hc2
      cases r with
      | true =>
        go_wp2_with (first
          | ((with_reducible refine wpList_loadMid6 (.tmp 20) g (off + j * 6) k b n t x (.slice p q.length cp) O1.out.c0 O1.out.c1 O1.out.c2 O1.out.c3 O1.out.c4 O1.out.c5 ?_ ?_ ?_ ?_); rfl; rfl; rfl)
          | ((with_reducible refine wpList_loadMid6 (.tmp 24) g2 (off2 + j * 6) k2 b2 n2 t2 x2 (.slice p2 q2.length cp2) O2.out.c0 O2.out.c1 O2.out.c2 O2.out.c3 O2.out.c4 O2.out.c5 ?_ ?_ ?_ ?_); rfl; rfl; rfl)
          | ((with_reducible refine wpList_load6 (.tmp 8) wr.heap.size l0 ?_ ?_ ?_ ?_); rfl; rfl; rfl)
          | ((with_reducible refine wpList_load6 (.tmp 9) (wr.heap.size + 1) l1 ?_ ?_ ?_ ?_); rfl; rfl; rfl)
          | (go_at_call 17; (with_reducible refine hc.mono ?_); rintro e w3 ⟨rfl, hb3⟩; have b3 := below_any b0 hb3 z0))
        go_roundw
        case rel =>
          refine ⟨j + 1, by omega, by go_num, b3, fun i hi hi2 hlt' => ?_⟩
          by_cases e : i = j
          · subst e; exact HR.out.symm
          · exact HA.out i hi hi2 (by omega)
        case measure => simp [intOf]; omega
      | false =>
        go_wp2_with (first
          | ((with_reducible refine wpList_loadMid6 (.tmp 20) g (off + j * 6) k b n t x (.slice p q.length cp) O1.out.c0 O1.out.c1 O1.out.c2 O1.out.c3 O1.out.c4 O1.out.c5 ?_ ?_ ?_ ?_); rfl; rfl; rfl)
          | ((with_reducible refine wpList_loadMid6 (.tmp 24) g2 (off2 + j * 6) k2 b2 n2 t2 x2 (.slice p2 q2.length cp2) O2.out.c0 O2.out.c1 O2.out.c2 O2.out.c3 O2.out.c4 O2.out.c5 ?_ ?_ ?_ ?_); rfl; rfl; rfl)
          | ((with_reducible refine wpList_load6 (.tmp 8) wr.heap.size l0 ?_ ?_ ?_ ?_); rfl; rfl; rfl)
          | ((with_reducible refine wpList_load6 (.tmp 9) (wr.heap.size + 1) l1 ?_ ?_ ?_ ?_); rfl; rfl; rfl)
          | (go_at_call 17; (with_reducible refine hc.mono ?_); rintro e w3 ⟨rfl, hb3⟩; have b3 := below_any b0 hb3 z0))
        go_ret
        exact ⟨by rw [eachSame_no l l2 j hlt hlt2 HR.out.symm]; rfl, b3⟩
    · go_wp2_with fail
      go_ret
      exact ⟨by rw [eachSame_yes l l2 fun i h h2 => HA.out i h h2 (by omega)]; rfl, hb⟩

theorem eqFuncAt (l l2 : List Val) (p p2 : Option Addr) (cap cap2 : Nat) (w : World) (hl : Held w (.slice p l.length cap) l) (hl2 : Held w (.slice p2 l2.length cap2) l2) (hn : l.length ≤ 2097152) (each : ∀ v ∈ l, SameAt v) :
    Calls Tryz.prog 43 #[.slice p l.length cap, .slice p2 l2.length cap2, .func (.func 17) #[] #[]] w fun e w' => e = .returned (.bool ((l.length == l2.length) && eachSame l l2)) ∧ Below w.heap.size w w' := by
  by_cases h : l.length = l2.length
  · rw [show (l.length == l2.length) = true by simpa using h, Bool.true_and, ← h]
    cases l with
    | nil =>
      unfold eachSame
      exact eqFuncNone _ _ _ _ _
    | cons v r =>
      cases l2 with
      | nil => simp at h
      | cons v2 r2 =>
        obtain ⟨g, off, rfl, hh⟩ := hl.form
        obtain ⟨g2, off2, rfl, hh2⟩ := hl2.form
        exact eqFuncSome (v :: r) (v2 :: r2) g off cap g2 off2 cap2 w hh hh2 h.symm hn each
  · rw [show (l.length == l2.length) = false by simpa using h, Bool.false_and]
    exact eqFuncLen p p2 _ _ cap cap2 w h
end Go.Proofs.YtoifjjgakblhhaaGreatDoor

/- What bytes are decoded as: the pure half: what was encoded is read again; a byte more or less is refused. -/
namespace Go.Proofs.YtoifjjgakblhhaaGreatDoor

/-- The number that bytes say, the highest first. -/
def numW : List UInt8 → Nat := fun l => l.foldl (fun n c => n * 256 + c.toNat) 0
theorem numW_snoc (l : List UInt8) (c : UInt8) : numW (l ++ [c]) = numW l * 256 + c.toNat := by
  unfold numW
  rw [List.foldl_append]
  rfl
theorem foldl_num (l : List UInt8) (m : Nat) : l.foldl (fun n c => n * 256 + c.toNat) m = m * 256 ^ l.length + numW l := by
  induction l generalizing m with
  | nil => simp [numW]
  | cons c r ih =>
    rw [List.foldl_cons, ih]
    show _ = _ + List.foldl (fun n c => n * 256 + c.toNat) (0 * 256 + c.toNat) r
    rw [ih, List.length_cons, Nat.pow_succ]
    rw [Nat.add_mul, Nat.zero_mul, Nat.zero_add, Nat.mul_assoc, Nat.mul_comm 256]
    omega
theorem numW_cons (c : UInt8) (r : List UInt8) : numW (c :: r) = c.toNat * 256 ^ r.length + numW r := by
  show List.foldl (fun n c => n * 256 + c.toNat) (0 * 256 + c.toNat) r = _
  rw [foldl_num, Nat.zero_mul, Nat.zero_add]
theorem numW_lt : (l : List UInt8) → numW l < 256 ^ l.length
  | [] => by decide
  | c :: r => by
    rw [numW_cons, List.length_cons, Nat.pow_succ]
    have h1 := numW_lt r
    have h2 := UInt8.toNat_lt c
    have h3 : (c.toNat + 1) * 256 ^ r.length ≤ 256 * 256 ^ r.length := Nat.mul_le_mul_right _ (by omega)
    rw [Nat.add_mul, Nat.one_mul] at h3
    rw [Nat.mul_comm _ 256]
    omega
theorem emod_mul2 (a p : Int) (hp : 0 < p) : a % (p * 256) = a % p + p * (a / p % 256) := by
  have e1 : p * (a / p) + a % p = a := Int.mul_ediv_add_emod a p
  have e2 : 256 * (a / p / 256) + a / p % 256 = a / p := Int.mul_ediv_add_emod (a / p) 256
  have h1 : 0 ≤ a % p := Int.emod_nonneg _ (by omega)
  have h2 : a % p < p := Int.emod_lt_of_pos _ hp
  have h3 : 0 ≤ a / p % 256 := Int.emod_nonneg _ (by decide)
  have h4 : a / p % 256 < 256 := Int.emod_lt_of_pos _ (by decide)
  generalize a / p % 256 = s at e2 h3 h4 ⊢
  generalize a / p / 256 = q at e2
  have e3 : a = a % p + p * s + p * 256 * q := by
    have : p * (256 * q + s) + a % p = a := by rw [e2]; exact e1
    rw [Int.mul_add, ← Int.mul_assoc] at this
    omega
  have h5 : 0 ≤ p * s := Int.mul_nonneg (by omega) h3
  have h6 : p * s + p ≤ p * 256 := by
    have : p * (s + 1) ≤ p * 256 := Int.mul_le_mul_of_nonneg_left (by omega) (by omega)
    rwa [Int.mul_add, Int.mul_one] at this
  generalize a % p = m at e3 h1 h2 ⊢
  rw [e3, Int.add_mul_emod_self_left]
  exact Int.emod_eq_of_lt (by omega) (by omega)
theorem numW_be (n : Int) : (k : Nat) → (numW (beB n k) : Int) = n % (256 : Int) ^ k
  | 0 => by simp [beB, numW, Int.emod_one]
  | i + 1 => by
    show (numW (byteOf n i :: beB n i) : Int) = _
    rw [numW_cons, Int.natCast_add, Int.natCast_mul, byteOf_int, numW_be n i, beB_length]
    have e : (2 : Int) ^ (8 * i) = 256 ^ i := by rw [Int.pow_mul]; rfl
    rw [e, Int.natCast_pow]
    have h0 : (0 : Int) < 256 ^ i := Int.pow_pos (by decide)
    rw [show (256 : Int) ^ (i + 1) = 256 ^ i * 256 from Int.pow_succ _ _, emod_mul2 n _ h0, Int.add_comm, Int.mul_comm]
    rfl
/-- A number of 64 bits, read with its sign. -/
def toI64 (n : Nat) : Int := if n < 9223372036854775808 then n else (n : Int) - 18446744073709551616
def E0 : ByteArray := ⟨#[]⟩
/-- A text and what is left. -/
def rdT (l : List UInt8) : Option (ByteArray × List UInt8) :=
  if 4 ≤ l.length ∧ numW (l.take 4) ≤ 1048576 ∧ numW (l.take 4) ≤ (l.drop 4).length then some (⟨((l.drop 4).take (numW (l.take 4))).toArray⟩, (l.drop 4).drop (numW (l.take 4))) else none
/-- So many values, one behind the other, and what is left. -/
def rdL (g : List UInt8 → Option (Val × List UInt8)) : Nat → List UInt8 → Option (List Val × List UInt8)
  | 0, l => some ([], l)
  | n + 1, l => match g l with
    | none => none
    | some (v, l') => match rdL g n l' with
      | none => none
      | some (q, l'') => some (v :: q, l'')
/-- What follows a kind. -/
def rdK (g : Option (List UInt8 → Option (Val × List UInt8))) (k : Nat) (r : List UInt8) : Option (Val × List UInt8) :=
  if k = 1 then (match r with
    | [] => none
    | b :: r' => if b.toNat ≤ 1 then some (.mk 1 (b.toNat == 1) 0 E0 E0 [], r') else none)
  else if k = 2 ∨ k = 6 ∨ k = 7 then (if 8 ≤ r.length then some (.mk k false (toI64 (numW (r.take 8))) E0 E0 [], r.drop 8) else none)
  else if k = 3 ∨ k = 4 ∨ k = 8 ∨ k = 9 then (match rdT r with
    | none => none
    | some (t, r') => some (.mk k false 0 t E0 [], r'))
  else if k = 10 then (match rdT r with
    | none => none
    | some (t, r') => match rdT r' with
      | none => none
      | some (x, r'') => some (.mk k false 0 t x [], r''))
  else if k = 5 then (match g with
    | none => none
    | some g => if 4 ≤ r.length ∧ numW (r.take 4) ≤ 4096 then (match rdL g (numW (r.take 4)) (r.drop 4) with
      | none => none
      | some (q, r') => some (.mk 5 false 0 E0 E0 q, r')) else none)
  else some (.mk k false 0 E0 E0 [], r)
/-- A value and what is left; f: so many lists may it have in one another. -/
def rdV : Nat → List UInt8 → Option (Val × List UInt8)
  | _, [] => none
  | 0, c :: r => rdK none c.toNat r
  | f + 1, c :: r => rdK (some (rdV f)) c.toNat r
/-- What Decode tells. -/
def decP (l : List UInt8) : Option Val := match rdV 60 l with
  | some (v, []) => if mayP v 0 then some v else none
  | _ => none

/-- More bytes behind change nothing but what is left. -/
def Ext (g : List UInt8 → Option (Val × List UInt8)) : Prop := ∀ l s v r, g l = some (v, r) → g (l ++ s) = some (v, r ++ s)
theorem rdT_ext (l s : List UInt8) (t : ByteArray) (r : List UInt8) (h : rdT l = some (t, r)) : rdT (l ++ s) = some (t, r ++ s) := by
  unfold rdT at h ⊢
  by_cases h1 : 4 ≤ l.length ∧ numW (l.take 4) ≤ 1048576 ∧ numW (l.take 4) ≤ (l.drop 4).length
  · rw [if_pos h1] at h
    obtain ⟨a, b, c⟩ := h1
    have e1 : (l ++ s).take 4 = l.take 4 := List.take_append_of_le_length a
    have e2 : (l ++ s).drop 4 = l.drop 4 ++ s := List.drop_append_of_le_length a
    rw [e1, e2, if_pos ⟨by rw [List.length_append]; omega, b, by rw [List.length_append]; omega⟩, List.take_append_of_le_length c, List.drop_append_of_le_length c]
    simp only [Option.some.injEq, Prod.mk.injEq] at h ⊢
    exact ⟨h.1, by rw [h.2]⟩
  · rw [if_neg h1] at h
    cases h
theorem rdL_ext {g : List UInt8 → Option (Val × List UInt8)} (hg : Ext g) : (n : Nat) → ∀ (l s : List UInt8) (q : List Val) (r : List UInt8), rdL g n l = some (q, r) → rdL g n (l ++ s) = some (q, r ++ s)
  | 0, l, s, q, r, h => by
    simp only [rdL, Option.some.injEq, Prod.mk.injEq] at h ⊢
    exact ⟨h.1, by rw [h.2]⟩
  | n + 1, l, s, q, r, h => by
    unfold rdL at h ⊢
    cases hv : g l with
    | none => rw [hv] at h; cases h
    | some p =>
      obtain ⟨v, l'⟩ := p
      rw [hv] at h
      rw [hg l s v l' hv]
      simp only at h ⊢
      cases hq : rdL g n l' with
      | none => rw [hq] at h; cases h
      | some p2 =>
        obtain ⟨q', l''⟩ := p2
        rw [hq] at h
        rw [rdL_ext hg n l' s q' l'' hq]
        simp only [Option.some.injEq, Prod.mk.injEq] at h ⊢
        exact ⟨h.1, by rw [h.2]⟩
theorem rdK_ext (g : Option (List UInt8 → Option (Val × List UInt8))) (hg : ∀ g', g = some g' → Ext g') (k : Nat) : Ext (rdK g k) := by
  intro l s v r h
  unfold rdK at h ⊢
  split at h
  · rename_i hk
    rw [if_pos hk]
    cases l with
    | nil => cases h
    | cons b l' =>
      simp only [List.cons_append] at h ⊢
      split at h
      · rename_i hb
        rw [if_pos hb]
        simp only [Option.some.injEq, Prod.mk.injEq] at h ⊢
        exact ⟨h.1, by rw [h.2]⟩
      · cases h
  rename_i k1
  rw [if_neg k1]
  split at h
  · rename_i hk
    rw [if_pos hk]
    split at h
    · rename_i hb
      rw [if_pos (by rw [List.length_append]; omega), List.take_append_of_le_length hb, List.drop_append_of_le_length hb]
      simp only [Option.some.injEq, Prod.mk.injEq] at h ⊢
      exact ⟨h.1, by rw [h.2]⟩
    · cases h
  rename_i k2
  rw [if_neg k2]
  split at h
  · rename_i hk
    rw [if_pos hk]
    cases ht : rdT l with
    | none => rw [ht] at h; cases h
    | some p =>
      obtain ⟨t, l'⟩ := p
      rw [ht] at h
      rw [rdT_ext l s t l' ht]
      simp only [Option.some.injEq, Prod.mk.injEq] at h ⊢
      exact ⟨h.1, by rw [h.2]⟩
  rename_i k3
  rw [if_neg k3]
  split at h
  · rename_i hk
    rw [if_pos hk]
    cases ht : rdT l with
    | none => rw [ht] at h; cases h
    | some p =>
      obtain ⟨t, l'⟩ := p
      rw [ht] at h
      rw [rdT_ext l s t l' ht]
      simp only at h ⊢
      cases hx : rdT l' with
      | none => rw [hx] at h; cases h
      | some p2 =>
        obtain ⟨x, l''⟩ := p2
        rw [hx] at h
        rw [rdT_ext l' s x l'' hx]
        simp only [Option.some.injEq, Prod.mk.injEq] at h ⊢
        exact ⟨h.1, by rw [h.2]⟩
  rename_i k4
  rw [if_neg k4]
  split at h
  · rename_i hk
    rw [if_pos hk]
    cases g with
    | none => cases h
    | some g =>
      simp only at h ⊢
      split at h
      · rename_i hb
        rw [if_pos ⟨by rw [List.length_append]; omega, by rw [List.take_append_of_le_length hb.1]; exact hb.2⟩, List.take_append_of_le_length hb.1, List.drop_append_of_le_length hb.1]
        cases hq : rdL g (numW (l.take 4)) (l.drop 4) with
        | none => rw [hq] at h; cases h
        | some p2 =>
          obtain ⟨q', l''⟩ := p2
          rw [hq] at h
          rw [rdL_ext (hg g rfl) _ _ s q' l'' hq]
          simp only [Option.some.injEq, Prod.mk.injEq] at h ⊢
          exact ⟨h.1, by rw [h.2]⟩
      · cases h
  rename_i k5
  rw [if_neg k5]
  simp only [Option.some.injEq, Prod.mk.injEq] at h ⊢
  exact ⟨h.1, by rw [h.2]⟩
theorem rdV_ext : (f : Nat) → Ext (rdV f)
  | 0 => by
    intro l s v r h
    cases l with
    | nil => simp [rdV] at h
    | cons c l' =>
      simp only [rdV, List.cons_append] at h ⊢
      exact rdK_ext none (fun _ e => by cases e) c.toNat l' s v r h
  | f + 1 => by
    intro l s v r h
    cases l with
    | nil => simp [rdV] at h
    | cons c l' =>
      simp only [rdV, List.cons_append] at h ⊢
      exact rdK_ext (some (rdV f)) (fun g e => by cases e; exact rdV_ext f) c.toNat l' s v r h
end Go.Proofs.YtoifjjgakblhhaaGreatDoor

/- minus. -/
namespace Go.Proofs.YtoifjjgakblhhaaGreatDoor
open Go.RowKit

theorem loadN {w : World} {g : Nat} {c : Array Value} {n : Bool} {f : Nat → Nat} (h : Lies w g c n f) : (Instr.loadAt 136 (.pointer (some ⟨g, 0, none⟩))).run Tryz.prog w = .ok (.agg c) w := by
  simp only [Instr.loadAt, Instr.sureAddr, Sem.run_bind, Sem.run_pure, Result.andThen_ok]
  exact run_loadVar_row (P := Tryz.prog) w g 136 136 c (0, 0) _ h.1 Tryz.underlying136 rfl (by rw [h.2.size]; exact info59)
theorem yieldsIf_loadN {ops : Array Oper} {S : World → Prop} {op : Oper} {a : Act} (hw : Region.wanted op (yielded ops a.tmps) = true) (x : Operand) (ho : op.op = .load 136 x)
    (g : Nat) (hx : a.eval x = .pointer (some ⟨g, 0, none⟩)) (c : Array Value) (n : Bool) (f : Nat → Nat) (hS : ∀ w, S w → Lies w g c n f) : YieldsIf Tryz.prog ops S op (.agg c) a :=
  .inl ⟨hw, fun w hw' => by
    unfold execOp
    simp only [ho, hx, Instr.loadAt, Instr.sureAddr, Sem.run_bind, Sem.run_pure, Result.andThen_ok, run_loadVar_row (P := Tryz.prog) w g 136 136 c (0, 0) _ (hS w hw').1 Tryz.underlying136 rfl (by rw [(hS w hw').2.size]; exact info59)]⟩
theorem storeN {w : World} {g : Nat} {c c' : Array Value} {n n' : Bool} {f f' : Nat → Nat} (h : Lies w g c n f) (k : IsNum c' n' f') : (Instr.storeAt 136 (.pointer (some ⟨g, 0, none⟩)) (.agg c')).run Tryz.prog w = .ok () (w.setRow g c') := by
  simp only [Instr.storeAt, Instr.sureAddr, Sem.run_bind, Sem.run_pure, Result.andThen_ok]
  exact run_storeVar_row (P := Tryz.prog) w g 136 136 c c' h.1 (by rw [k.size]; exact info59) (by rw [h.2.size, k.size]) k.one

theorem wp_storeN {op : Oper} {a : Act} {w : World} {K : Act → World → Prop} {Q : Exit → Act → World → Prop} (x y : Operand) (ho : op.op = .store 136 x y) (g : Nat) {c c' : Array Value} {n n' : Bool} {f f' : Nat → Nat}
    (hx : a.eval x = .pointer (some ⟨g, 0, none⟩)) (hy : a.eval y = .agg c') (hl : Lies w g c n f) (hn : IsNum c' n' f') (h : ∀ w', Only g w w' → Lies w' g c' n' f' → K (a.put op.dst undef) w') : op.wp Tryz.prog a w K Q := by
  unfold Oper.wp execOp
  simp only [ho, hx, hy, storeN hl hn, Sem.run_bind, Sem.run_pure, Result.andThen_ok]
  exact h _ (Only.setRow w c') ⟨heap_setRow hl.1, hn⟩

set_option maxRecDepth 20000 in
set_option maxHeartbeats 1600000 in
theorem minusNum (c d : Array Value) (n m : Bool) (f g : Nat → Nat) (w : World) (hc : IsNum c n f) (hd : IsNum d m g) (hs : wval f + wval g < BASE ^ 16) :
    Calls Tryz.prog 161 #[.agg c, .agg d] w fun e w' => ∃ c' r h, e = .returned (.agg c') ∧ IsNum c' r h ∧ sv r (wval h) = sv n (wval f) + sv (!m) (wval g) ∧ Below w.heap.size w w' := by
  have l1 : Lies (((w.alloc (.cells c 136)).alloc (.cells d 136)).alloc (.cells #[.bool false, .int .u32 0, .int .u32 0, .int .u32 0, .int .u32 0, .int .u32 0, .int .u32 0, .int .u32 0, .int .u32 0, .int .u32 0, .int .u32 0, .int .u32 0, .int .u32 0, .int .u32 0, .int .u32 0, .int .u32 0, .int .u32 0] 136)) w.heap.size c n f := ((lies_new w hc rfl).alloc _).alloc _
  have l2 : Lies (((w.alloc (.cells c 136)).alloc (.cells d 136)).alloc (.cells #[.bool false, .int .u32 0, .int .u32 0, .int .u32 0, .int .u32 0, .int .u32 0, .int .u32 0, .int .u32 0, .int .u32 0, .int .u32 0, .int .u32 0, .int .u32 0, .int .u32 0, .int .u32 0, .int .u32 0, .int .u32 0, .int .u32 0] 136)) (w.heap.size + 1) d m g := (lies_new _ hd (by simp)).alloc _
  have l3 : Lies (((w.alloc (.cells c 136)).alloc (.cells d 136)).alloc (.cells #[.bool false, .int .u32 0, .int .u32 0, .int .u32 0, .int .u32 0, .int .u32 0, .int .u32 0, .int .u32 0, .int .u32 0, .int .u32 0, .int .u32 0, .int .u32 0, .int .u32 0, .int .u32 0, .int .u32 0, .int .u32 0, .int .u32 0] 136)) (w.heap.size + 1 + 1) zero59 false (fun _ => 0) := lies_zero _ (by simp)
  have hb := below3 w (.cells c 136) (.cells d 136) (.cells #[.bool false, .int .u32 0, .int .u32 0, .int .u32 0, .int .u32 0, .int .u32 0, .int .u32 0, .int .u32 0, .int .u32 0, .int .u32 0, .int .u32 0, .int .u32 0, .int .u32 0, .int .u32 0, .int .u32 0, .int .u32 0, .int .u32 0] 136)
  go_enter Tryz.func161, Tryz.ntmps161
  go_wp2_with fail
  refine wp_region_held_drew (S := fun w' => Lies w' w.heap.size c n f ∧ Lies w' (w.heap.size + 1) d m g ∧ (∃ c0 n0 f0, Lies w' (w.heap.size + 1 + 1) c0 n0 f0) ∧ Below w.heap.size w w') (by kernel_rfl) ⟨l1, l2, ⟨_, _, _, l3⟩, hb.drew⟩ (fun hHeld => ?_)
  clear l1 l2 l3 hb
  refine wpAnyH_take (i := 0) rfl (by kernel_rfl) (by kernel_rfl) (by kernel_rfl) (fun _ _ _ h => h) (yieldsIf_loadN (by rfl) (.tmp 2) rfl w.heap.size rfl c n f (fun _ h => h.1)) hHeld ?_
  try simp only [Act.put, List.setIfInBounds_toArray, List.set_cons_zero, List.set_cons_succ]
  refine wpAnyH_take (i := 1) rfl (by kernel_rfl) (by kernel_rfl) (by kernel_rfl) (fun _ _ _ h => h) (yieldsIf_loadN (by rfl) (.tmp 3) rfl (w.heap.size + 1) rfl d m g (fun _ h => h.2.1)) hHeld ?_
  try simp only [Act.put, List.setIfInBounds_toArray, List.set_cons_zero, List.set_cons_succ]
  refine wpAnyH_ready (rs := [2]) (by kernel_rfl) (by simp) ?_
  refine AllReadyH.cons rfl (fun K hK => ?_) AllReadyH.nil
  go_simp
  refine (opp d m g _ hd).mono ?_
  rintro e w1 ⟨d', rfl, hd', hb1⟩
  obtain ⟨u1, u2, ⟨cz, nz, fz, u3⟩, u4⟩ := hHeld
  refine hK.out _ _ ⟨u1.below hb1, u2.below hb1, ⟨_, _, _, u3.below hb1⟩, below_any u4 hb1 (Nat.le_of_lt u1.lt)⟩ (fun hHeld => ?_)
  clear hK K u1 u2 u3 u4 hb1
  try simp only [Act.put, List.setIfInBounds_toArray, List.set_cons_zero, List.set_cons_succ]
  refine wpAnyH_ready (rs := [3]) (by kernel_rfl) (by simp) ?_
  refine AllReadyH.cons rfl (fun K hK => ?_) AllReadyH.nil
  go_simp
  refine (plusNum c d' n (!m) f g _ hc hd' hs).mono ?_
  rintro e w2 ⟨c', r, h, rfl, hn, hsv, hb1⟩
  obtain ⟨u1, u2, ⟨cz, nz, fz, u3⟩, u4⟩ := hHeld
  refine hK.out _ _ ⟨u1.below hb1, u2.below hb1, ⟨_, _, _, u3.below hb1⟩, below_any u4 hb1 (Nat.le_of_lt u1.lt)⟩ (fun hHeld => ?_)
  clear hK K u1 u2 u3 u4 hb1
  try simp only [Act.put, List.setIfInBounds_toArray, List.set_cons_zero, List.set_cons_succ]
  obtain ⟨u1, u2, ⟨cz, nz, fz, u3⟩, u4⟩ := hHeld
  refine wpAnyH_ready (rs := [4]) (by kernel_rfl) (by simp) ?_
  refine AllReadyH.cons rfl (fun K hK => ?_) AllReadyH.nil
  rw [if_pos (by rfl)]
  refine wp_storeN (.tmp 4) (.tmp 8) rfl (w.heap.size + 1 + 1) rfl rfl u3 hn (fun w3 ho m3 => ?_)
  refine hK.out _ _ ⟨u1.only ho (by omega), u2.only ho (by omega), ⟨_, _, _, m3⟩, below_only u4 ho (by omega) (Nat.le_of_lt u1.lt)⟩ (fun hHeld => ?_)
  have b3 := hHeld.2.2.2
  clear hK K u1 u2 u3 u4 hHeld
  refine wpAnyH_done (by kernel_rfl) ?_ _
  go_wp2_with fail
  exact bodyPost_ret (v := .agg c') (results_num (p := 4) Tryz.results161 _ rfl m3) rfl ⟨c', r, h, rfl, hn, hsv, b3⟩

end Go.Proofs.YtoifjjgakblhhaaGreatDoor
