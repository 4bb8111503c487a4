/- Texts of one kind, one behind the other: each says ahead of itself what it shows. -/
import Derived.Test.YtffbcccbhofbpaaGreatDoorHaf
import Derived.WalkMore
import Derived.Deep.LoopGhost
import Derived.OwnWalk
import Derived.Test.YtffbcccbhofbpaaGreatDoorHae
import Derived.Shelf.Strconv.Clone
import Derived.Test.YtffbcccbhofbpaaGreatDoorProg
import Derived.KernelRfl
import Derived.Test.YtffbcccbhofbpaaGreatDoorHab
import Derived.Maps.OwnSet
import Derived.Maps.AppendAt
import Derived.BigGuardPart
/- Long division, digit by digit. No Go stands here. -/
namespace Go.Proofs.YtffbcccbhofbpaaGreatDoor

/-- The digits qs have been found of the first t of 164 digits of N by m; R is left. -/
structure OverTo (N m t R : Nat) (qs : List UInt8) : Prop where
  len : qs.length = t
  dig : qs.all isDig = true
  eq : valD qs * m + R = N / 10 ^ (164 - t)
  lt : R < m

theorem OverTo.zero {N m : Nat} (hN : N < 10 ^ 164) (hm : 0 < m) : OverTo N m 0 0 [] :=
  ⟨rfl, rfl, by rw [Nat.sub_zero, Nat.div_eq_of_lt hN]; simp [valD], hm⟩

/-- A digit as a sign. -/
def digB (j : Nat) : UInt8 := UInt8.ofNat (48 + j)
theorem digB_toNat {j : Nat} (h : j ≤ 9) : (digB j).toNat = 48 + j := by
  unfold digB; rw [UInt8.toNat_ofNat']; omega
theorem digB_dig {j : Nat} (h : j ≤ 9) : isDig (digB j) = true := by
  rw [isDig_iff, digB_toNat h]; omega

theorem OverTo.step {N m t R R' j : Nat} {qs : List UInt8} (H : OverTo N m t R qs) (ht : t < 164) (hj : j ≤ 9) (he : R' + j * m = R * 10 + N / 10 ^ (163 - t) % 10) (hl : R' < m) :
    OverTo N m (t + 1) R' (qs ++ [digB j]) := by
  refine ⟨by simp [H.len], by rw [List.all_append, H.dig, Bool.true_and, List.all_cons, digB_dig hj]; rfl, ?_, hl⟩
  have e1 : 164 - t = 163 - t + 1 := by omega
  have e := H.eq
  rw [e1, Nat.pow_succ, ← Nat.div_div_eq_div_mul] at e
  have e2 : 164 - (t + 1) = 163 - t := by omega
  rw [e2, valD_append]
  have e3 : valD [digB j] = j := by simp [valD, digB_toNat hj]
  rw [e3]
  simp only [List.length_singleton, Nat.pow_one]
  have d := Nat.div_add_mod (N / 10 ^ (163 - t)) 10
  generalize N / 10 ^ (163 - t) = P at *
  rw [← e] at d
  have : (valD qs * 10 + j) * m = 10 * (valD qs * m) + j * m := by rw [Nat.add_mul, Nat.mul_right_comm, Nat.mul_comm]
  rw [this]
  omega

theorem OverTo.digit_le {N m t R j R' : Nat} {qs : List UInt8} (H : OverTo N m t R qs) {dg : Nat} (hd : dg ≤ 9) (he : R' + j * m = R * 10 + dg) (hge : m ≤ R') : j + 1 ≤ 9 := by
  have h := H.lt
  have h1 : (R + 1) * 10 ≤ m * 10 := Nat.mul_le_mul_right _ h
  by_cases hj : j + 1 ≤ 9
  · exact hj
  · have : 9 * m ≤ j * m := Nat.mul_le_mul_right _ (by omega)
    omega

theorem OverTo.done {N m R : Nat} {qs : List UInt8} (H : OverTo N m 164 R qs) : qs = digsOf (N / m) 0 164 := by
  have e := H.eq
  rw [Nat.sub_self, Nat.pow_zero, Nat.div_one] at e
  have hq : N / m = valD qs := by
    rw [← e]
    have := H.lt
    rw [Nat.mul_comm, Nat.mul_add_div (by omega), Nat.div_eq_of_lt this, Nat.add_zero]
  have hl := valD_lt qs H.dig
  rw [H.len] at hl
  refine eq_of_val _ _ H.dig (digsOf_dig _ _ _) (by rw [H.len, digsOf_len]) ?_
  rw [digsOf_val, Nat.pow_zero, Nat.div_one, hq, Nat.mod_eq_of_lt hl]

theorem digsOf_split (N : Nat) (a b : Nat) : ∀ lo, digsOf N lo (a + b) = digsOf N (lo + b) a ++ digsOf N lo b := by
  intro lo
  induction a with
  | zero => simp [digsOf]
  | succ a ih =>
    rw [show a + 1 + b = (a + b) + 1 by omega]
    simp only [digsOf, ih, List.cons_append]
    congr 2
    omega

theorem PushTo.done {f h : Nat → Nat} {d c : Nat} (H : PushTo f d h c 16) (hs : wval f * 10 + d < BASE ^ 16) : wval h = wval f * 10 + d := by
  have s := H.sum
  have hc : c = 0 := by
    by_cases e : c = 0
    · exact e
    · have : 1 * BASE ^ 16 ≤ c * BASE ^ 16 := Nat.mul_le_mul_right _ (by omega)
      unfold wval at hs; omega
  subst hc
  unfold wval at *; omega

theorem digAt_shift (N q : Nat) : digAt (N * 10 ^ 20) (q + 20) = digAt N q := by
  unfold digAt
  rw [Nat.pow_add, Nat.mul_comm (10 ^ q), ← Nat.div_div_eq_div_mul, Nat.mul_div_cancel _ (Nat.pow_pos (by omega))]
theorem digAt_low (N q : Nat) (h : q < 20) : digAt (N * 10 ^ 20) q = 48 := by
  unfold digAt
  have e : N * 10 ^ 20 = (N * 10 ^ (19 - q) * 10) * 10 ^ q := by
    rw [Nat.mul_assoc, Nat.mul_assoc]
    congr 1
    rw [← Nat.mul_assoc, ← Nat.pow_succ, ← Nat.pow_add]
    congr 1; omega
  rw [e, Nat.mul_div_cancel _ (Nat.pow_pos (by omega)), Nat.mul_mod_left]
  rfl

end Go.Proofs.YtffbcccbhofbpaaGreatDoor

/- over: the quotient's digits. -/
namespace Go.Proofs.YtffbcccbhofbpaaGreatDoor
open Go.RowKit

theorem Only.grown {b : Nat} {w w' : World} (h : Only b w w') : w.grownBy w' (some b) :=
  ⟨h.os, h.tape, h.output, h.size, fun k hk e => h.block k hk (by rintro rfl; exact e rfl)⟩
theorem below_grown {w w' : World} (h : Below w.heap.size w w') : w.grownBy w' none :=
  ⟨h.os, h.tape, h.output, h.size, fun k hk _ => h.block k hk⟩

theorem info5 : (Tryz.prog.info? 5).map (fun i => (i.zero, i.size, i.bytes)) = some (some (.int .u8 0), 1, 1) := by kernel_rfl

theorem below4 (w : World) (a b c d : Obj) : Below w.heap.size w ((((w.alloc a).alloc b).alloc c).alloc d) := (below3 w a b c).alloc (by simp; omega) _

/-- The bytes of a list, as values. -/
def vals (l : List UInt8) : List Value := l.map fun b => .int .u8 (b.toNat : Int)
theorem vals_snoc (l : List UInt8) (j : Nat) (h : j ≤ 9) : vals (l ++ [digB j]) = vals l ++ [.int .u8 (48 + (j : Int))] := by
  unfold vals
  rw [List.map_append, List.map_cons, List.map_nil, digB_toNat h]
  rfl

theorem ownsRow_start (w : World) {g : Nat} (e : w.heap.size = g) : (w.alloc (.cells (Array.replicate 164 (.int .u8 0)) 5)).ownsRow g 5 1 (.slice (some ⟨g, 0, none⟩) 0 164) 0 (vals []) := by
  refine ⟨rfl, .inr ⟨g, 164, _, rfl, Nat.le_refl _, heap_new _ _ e, by omega, by unfold maxLen; omega, by simp, rfl⟩⟩

end Go.Proofs.YtffbcccbhofbpaaGreatDoor

/- What a value is encoded as: its bytes; how many they are at most. -/
namespace Go.Proofs.YtffbcccbhofbpaaGreatDoor
open Go.RowKit

/-- A number's byte, the lowest is 0. -/
def byteOf (n : Int) (i : Nat) : UInt8 := UInt8.ofNat ((n / (2 : Int) ^ (8 * i)) % 256).toNat
theorem byteOf_int (n : Int) (i : Nat) : ((byteOf n i).toNat : Int) = n / (2 : Int) ^ (8 * i) % 256 := by
  unfold byteOf
  have h0 : 0 ≤ n / (2 : Int) ^ (8 * i) % 256 := Int.emod_nonneg _ (by decide)
  have h1 : n / (2 : Int) ^ (8 * i) % 256 < 256 := Int.emod_lt_of_pos _ (by decide)
  generalize n / (2 : Int) ^ (8 * i) % 256 = z at h0 h1 ⊢
  rw [UInt8.toNat_ofNat']
  omega
/-- So many bytes of a number, the highest first. -/
def beB (n : Int) : Nat → List UInt8
  | 0 => []
  | i + 1 => byteOf n i :: beB n i
theorem beB_length (n : Int) : (k : Nat) → (beB n k).length = k
  | 0 => rfl
  | k + 1 => by simp [beB, beB_length n k]
/-- A text's bytes. -/
def txtB (t : ByteArray) : List UInt8 := t.data.toList
theorem txtB_length (t : ByteArray) : (txtB t).length = t.size := Array.length_toList
/-- A text, with its length ahead. -/
def lenB (t : ByteArray) : List UInt8 := beB t.size 4 ++ txtB t
theorem lenB_length (t : ByteArray) : (lenB t).length = 4 + t.size := by
  unfold lenB
  rw [List.length_append, beB_length, txtB_length]
mutual
def encP : Val → List UInt8
  | .mk k b n t x l => byteOf k 0 :: (if k = 1 then [if b then 1 else 0] else if k = 2 ∨ k = 6 ∨ k = 7 then beB n 8 else if k = 3 ∨ k = 4 ∨ k = 8 ∨ k = 9 then lenB t
      else if k = 10 then lenB t ++ lenB x else if k = 5 then beB l.length 4 ++ encAll l else [])
def encAll : List Val → List UInt8
  | [] => []
  | v :: r => encP v ++ encAll r
end
mutual
/-- How much there is of a value. -/
def wOne : Val → Nat
  | .mk _ _ _ t x l => 1 + t.size + x.size + wAll l
def wAll : List Val → Nat
  | [] => 0
  | v :: r => wOne v + wAll r
end
theorem wAll_mem : {l : List Val} → {v : Val} → v ∈ l → wOne v ≤ wAll l
  | [], _, h => absurd h (by simp)
  | u :: r, v, h => by
    unfold wAll
    rcases List.mem_cons.1 h with h | h
    · rw [h]; omega
    · have := wAll_mem h; omega
theorem wAll_len : (l : List Val) → l.length ≤ wAll l
  | [] => by simp
  | .mk k b n t x q :: r => by
    unfold wAll wOne
    have := wAll_len r
    simp only [List.length_cons]
    omega
mutual
theorem encP_len : (v : Val) → (encP v).length ≤ 13 * wOne v
  | .mk k b n t x l => by
    have h := encAll_len l
    unfold encP wOne
    rw [List.length_cons]
    split
    · simp; omega
    split
    · rw [beB_length]; omega
    split
    · rw [lenB_length]; omega
    split
    · rw [List.length_append, lenB_length, lenB_length]; omega
    split
    · rw [List.length_append, beB_length]; omega
    · simp; omega
theorem encAll_len : (l : List Val) → (encAll l).length ≤ 13 * wAll l
  | [] => by simp [encAll]
  | v :: r => by
    have := encP_len v
    have := encAll_len r
    unfold encAll wAll
    rw [List.length_append]
    omega
end
theorem encAll_take : (l : List Val) → (j : Nat) → (h : j < l.length) → encAll (l.take (j + 1)) = encAll (l.take j) ++ encP (l[j]'h)
  | [], _, h => absurd h (by simp)
  | v :: r, 0, _ => by simp [encAll]
  | v :: r, j + 1, h => by
    have := encAll_take r j (by simpa using h)
    simp [encAll, this, List.append_assoc]
theorem wAll_take : (l : List Val) → (j : Nat) → (h : j < l.length) → wAll (l.take j) + wOne (l[j]'h) ≤ wAll l
  | [], _, h => absurd h (by simp)
  | v :: r, 0, _ => by
    show wAll (v :: r.take 0 |>.take 0) + wOne v ≤ _
    simp [wAll]
  | v :: r, j + 1, h => by
    have := wAll_take r j (by simpa using h)
    show wAll (v :: r.take j) + wOne (r[j]'(by simpa using h)) ≤ wAll (v :: r)
    unfold wAll
    omega
theorem vals_append (a b : List UInt8) : vals (a ++ b) = vals a ++ vals b := by simp [vals]
theorem vals_length (a : List UInt8) : (vals a).length = a.length := by simp [vals]
theorem strCells_vals (t : ByteArray) : Lib.strCells t = vals (txtB t) := rfl
/-- A slice of bytes: what it reads as. -/
def Bts (w : World) (A : Value) (l : List UInt8) : Prop := ∃ p cap, A = .slice p l.length cap ∧ (l = [] ∨ ∃ g off, p = some ⟨g, off, none⟩ ∧ ∀ j c, l[j]? = some c → w.cell? ⟨g, off + j, none⟩ = some (.int .u8 c.toNat))
theorem Bts.below {w w' : World} {A : Value} {l : List UInt8} (h : Bts w A l) (b : Below w.heap.size w w') : Bts w' A l := by
  obtain ⟨p, cap, e, h⟩ := h
  refine ⟨p, cap, e, ?_⟩
  rcases h with h | ⟨g, off, e2, h⟩
  · exact .inl h
  · exact .inr ⟨g, off, e2, fun j c hj => (b.cell (p := ⟨g, off + j, none⟩) (World.block_lt_of_cell? w _ (h j c hj))).trans (h j c hj)⟩
/-- A row of bytes of one's own. -/
structure OwnB (w0 : World) (A : Value) (l : List UInt8) (w : World) : Prop where
  own : w.ownsRow w0.heap.size 5 1 A l.length (vals l)
  bel : Below w0.heap.size w0 w
theorem OwnB.lo {w0 w : World} {A : Value} {l : List UInt8} (h : OwnB w0 A l w) : w0.heap.size ≤ w.heap.size := h.bel.size
theorem OwnB.alloc {w0 w : World} {A : Value} {l : List UInt8} (h : OwnB w0 A l w) (o : Obj) : OwnB w0 A l (w.alloc o) := ⟨h.own.alloc o, h.bel.alloc h.lo o⟩
theorem OwnB.start (w : World) : OwnB w (.slice none 0 0) [] w := ⟨World.ownsRow_nil _ _ _ _, Below.refl _ _⟩
theorem OwnB.say {w0 w w1 : World} {A A' : Value} {l l' : List UInt8} {n : Nat} {xs : List Value} (h : OwnB w0 A l w) (hown : w1.ownsRow w0.heap.size 5 1 A' n xs) (hg : w.grownBy w1 A.ownBlock) (hn : n = l'.length) (hx : xs = vals l') : OwnB w0 A' l' w1 := by
  subst hn hx
  exact ⟨hown, h.bel.grown hg h.lo (fun k hk => (h.own.lt k hk).1)⟩
theorem OwnB.after {w0 w w1 : World} {A : Value} {l : List UInt8} (h : OwnB w0 A l w) (hb : Below w.heap.size w w1) : OwnB w0 A l w1 := by
  refine ⟨⟨h.own.1, ?_⟩, below_any h.bel hb h.lo⟩
  rcases h.own.2 with h0 | ⟨g, cap, cur, e, h1, h2, h3⟩
  · exact .inl h0
  · exact .inr ⟨g, cap, cur, e, h1, (hb.block g (lt_of_heap h2)).trans h2, h3⟩
theorem OwnB.bts {w0 w : World} {A : Value} {l : List UInt8} (h : OwnB w0 A l w) : Bts w A l := by
  rcases h.own.2 with ⟨e, h0⟩ | ⟨g, cap, cur, e, _⟩
  · have := List.length_eq_zero_iff.1 h0
    subst this
    exact ⟨none, 0, e, .inl rfl⟩
  · refine ⟨_, cap, e, .inr ⟨g, 0, rfl, fun j c hj => ?_⟩⟩
    have hj' := (List.getElem?_eq_some_iff.1 hj).1
    have hown := h.own
    rw [e] at hown
    rw [Nat.zero_add, hown.cellAt j (by omega)]
    unfold vals
    rw [List.getElem?_map, hj]
    rfl
theorem OwnB.ne {w0 w : World} {A : Value} {l : List UInt8} (h : OwnB w0 A l w) : some w.heap.size ≠ A.ownBlock := fun e => by have := (h.own.lt _ e.symm).2; omega
theorem Six.grown {W w1 : World} {g : Nat} {k : Int} {b : Bool} {n : Int} {t x : ByteArray} {p : Option Addr} {len cap : Nat} {r : Option Nat} (S : Six W g k b n t x p len cap) (hg : W.grownBy w1 r) (hne : some g ≠ r) : Six w1 g k b n t x p len cap :=
  (hg.block g S.lt hne).trans S
/-- All boxes of values stay as they were. -/
def Bx (w w' : World) : Prop := ∀ (g : Nat) (c : Array Value), w.heap[g]? = some (Obj.cells c 31) → w'.heap[g]? = some (Obj.cells c 31)
theorem Bx.refl (w : World) : Bx w w := fun _ _ h => h
theorem Bx.trans {w w1 w2 : World} (h : Bx w w1) (k : Bx w1 w2) : Bx w w2 := fun g c e => k g c (h g c e)
theorem Bx.below {w w' : World} (h : Below w.heap.size w w') : Bx w w' := fun g _ e => (h.block g (lt_of_heap e)).trans e
theorem OwnB.bx {w0 w w1 : World} {A : Value} {l : List UInt8} (h : OwnB w0 A l w) (hg : w.grownBy w1 A.ownBlock) : Bx w w1 := fun g c e => by
  refine (hg.block g (lt_of_heap e) (fun e2 => ?_)).trans e
  rcases h.own.2 with ⟨e3, _⟩ | ⟨g2, cap, cur, e3, _, h2, _⟩
  · rw [e3] at e2; cases e2
  · rw [e3] at e2
    obtain rfl : g = g2 := Option.some.inj e2
    rw [e] at h2
    injection h2 with h3
    injection h3 with _ h4
    exact absurd h4 (by decide)
theorem Six.bx {w w' : World} {g : Nat} {k : Int} {b : Bool} {n : Int} {t x : ByteArray} {p : Option Addr} {len cap : Nat} (S : Six w g k b n t x p len cap) (h : Bx w w') : Six w' g k b n t x p len cap := h _ _ S
theorem OwnB.drew {w0 w : World} {A : Value} {l : List UInt8} (h : OwnB w0 A l w) : OwnB w0 A l w.drew := ⟨h.own, h.bel.drew⟩
theorem vals_one (c : UInt8) {x : Int} (h : (c.toNat : Int) = x) : vals [c] = [.int .u8 x] := by subst h; rfl
theorem beB_mod (n : Int) : (k : Nat) → k ≤ 8 → beB (n % 18446744073709551616) k = beB n k
  | 0, _ => rfl
  | i + 1, h => by
    unfold beB
    rw [beB_mod n i (by omega)]
    congr 1
    unfold byteOf
    congr 2
    have : i = 0 ∨ i = 1 ∨ i = 2 ∨ i = 3 ∨ i = 4 ∨ i = 5 ∨ i = 6 ∨ i = 7 := by omega
    rcases this with rfl | rfl | rfl | rfl | rfl | rfl | rfl | rfl <;> omega
end Go.Proofs.YtffbcccbhofbpaaGreatDoor

/- A list of values that came in: where it lies, what it is, and how much of it there is. -/
namespace Go.Proofs.YtffbcccbhofbpaaGreatDoor
open Go.RowKit Go.ChangeShapes
variable {H : Type} {enc : TypeId × Value → H}

theorem value_of_trodW {W : World} {n : Nat} {cs : List Value} {y : DataW H × List MemPlace} (h : DataW.trod enc Tryz.prog W 0 (fun _ => true) true n 31 cs = some y) :
    ∃ n' k b m t x L yl, n = n' + 1 ∧ cs = [.int .i64 k, .bool b, .int .i64 m, .string t, .string x, L] ∧ DataW.trod enc Tryz.prog W 0 (fun _ => true) true n' 22 [L] = some yl ∧
      1 + t.size + x.size + Rows.uptoBulk yl.1 ≤ Rows.uptoBulk y.1 ∧ (Lit.int .i64 m).wf = true := by
  obtain ⟨xs, n', rfl, rfl, hl, hlen, hf⟩ := DataW.trod_struct Tryz.underlying31 h
  obtain ⟨c0, c1, c2, c3, c4, c5, rfl⟩ := list6 (hl.trans (by kernel_rfl : Tryz.prog.cellsOf 31 = 6))
  obtain ⟨y0, y1, y2, y3, y4, y5, rfl⟩ := list6 (hlen.trans rfl)
  have e1 : Tryz.prog.cellsOf 3 = 1 := by kernel_rfl
  have e2 : Tryz.prog.cellsOf 4 = 1 := by kernel_rfl
  have e3 : Tryz.prog.cellsOf 2 = 1 := by kernel_rfl
  have e4 : Tryz.prog.cellsOf 9 = 1 := by kernel_rfl
  have e5 : Tryz.prog.cellsOf 22 = 1 := by kernel_rfl
  have h0 : DataW.trod enc Tryz.prog W 0 (fun _ => true) true n' 3 (([c0, c1, c2, c3, c4, c5].drop 0).take (Tryz.prog.cellsOf 3)) = [y0, y1, y2, y3, y4, y5][0]? := hf 0 _ rfl
  have h1 : DataW.trod enc Tryz.prog W 0 (fun _ => true) true n' 4 (([c0, c1, c2, c3, c4, c5].drop 1).take (Tryz.prog.cellsOf 4)) = [y0, y1, y2, y3, y4, y5][1]? := hf 1 _ rfl
  have h2 : DataW.trod enc Tryz.prog W 0 (fun _ => true) true n' 2 (([c0, c1, c2, c3, c4, c5].drop 2).take (Tryz.prog.cellsOf 2)) = [y0, y1, y2, y3, y4, y5][2]? := hf 2 _ rfl
  have h3 : DataW.trod enc Tryz.prog W 0 (fun _ => true) true n' 9 (([c0, c1, c2, c3, c4, c5].drop 3).take (Tryz.prog.cellsOf 9)) = [y0, y1, y2, y3, y4, y5][3]? := hf 3 _ rfl
  have h4 : DataW.trod enc Tryz.prog W 0 (fun _ => true) true n' 9 (([c0, c1, c2, c3, c4, c5].drop 4).take (Tryz.prog.cellsOf 9)) = [y0, y1, y2, y3, y4, y5][4]? := hf 4 _ rfl
  have h5 : DataW.trod enc Tryz.prog W 0 (fun _ => true) true n' 22 (([c0, c1, c2, c3, c4, c5].drop 5).take (Tryz.prog.cellsOf 22)) = [y0, y1, y2, y3, y4, y5][5]? := hf 5 _ rfl
  rw [e1] at h0
  rw [e2] at h1
  rw [e3] at h2
  rw [e4] at h3 h4
  rw [e5] at h5
  replace h0 : DataW.trod enc Tryz.prog W 0 (fun _ => true) true n' 3 [c0] = some y0 := h0
  replace h1 : DataW.trod enc Tryz.prog W 0 (fun _ => true) true n' 4 [c1] = some y1 := h1
  replace h2 : DataW.trod enc Tryz.prog W 0 (fun _ => true) true n' 2 [c2] = some y2 := h2
  replace h3 : DataW.trod enc Tryz.prog W 0 (fun _ => true) true n' 9 [c3] = some y3 := h3
  replace h4 : DataW.trod enc Tryz.prog W 0 (fun _ => true) true n' 9 [c4] = some y4 := h4
  replace h5 : DataW.trod enc Tryz.prog W 0 (fun _ => true) true n' 22 [c5] = some y5 := h5
  obtain ⟨k, a0, _, _⟩ := DataW.trod_int Tryz.underlying3 h0
  obtain ⟨b, a1, _⟩ := DataW.trod_bool Tryz.underlying4 h1
  obtain ⟨m, a2, _, wm⟩ := DataW.trod_int Tryz.underlying2 h2
  obtain ⟨t, a3, z3, _⟩ := DataW.trod_string Tryz.underlying9 h3
  obtain ⟨x, a4, z4, _⟩ := DataW.trod_string Tryz.underlying9 h4
  simp only [List.cons.injEq, and_true] at a0 a1 a2 a3 a4
  subst a0 a1 a2 a3 a4
  refine ⟨n', k, b, m, t, x, c5, y5, rfl, rfl, h5, ?_, wm⟩
  have a3 : Rows.uptoBulk y3.1 = t.size + 1 := by
    rw [z3]
    have e' : t.data.toList.length = t.size := Array.length_toList
    show t.data.toList.length + 1 = _
    rw [e']
  have a4 : Rows.uptoBulk y4.1 = x.size + 1 := by
    rw [z4]
    have e' : x.data.toList.length = x.size := Array.length_toList
    show x.data.toList.length + 1 = _
    rw [e']
  have a : Rows.uptoBulkAll ([y0, y1, y2, y3, y4, y5].map (·.1)) = Rows.uptoBulk y0.1 + (Rows.uptoBulk y1.1 + (Rows.uptoBulk y2.1 + (Rows.uptoBulk y3.1 + (Rows.uptoBulk y4.1 + (Rows.uptoBulk y5.1 + 0))))) := rfl
  show _ ≤ Rows.uptoBulkAll _ + 1
  rw [a, a3, a4]
  omega

set_option maxRecDepth 20000 in
theorem vals_of_trodW {W : World} (B : Nat) (hBB : B ≤ 2097152) : ∀ (N n : Nat), n ≤ N → ∀ (L : Value) (y : DataW H × List MemPlace), DataW.trod enc Tryz.prog W 0 (fun _ => true) true n 22 [L] = some y → Rows.uptoBulk y.1 ≤ B → ∃ l, Held W L l ∧ wAll l ≤ Rows.uptoBulk y.1 := by
  intro N
  induction N with
  | zero =>
    intro n hn L y h _
    obtain rfl : n = 0 := by omega
    simp [DataW.trod] at h
  | succ N IH =>
    intro n0 hn0 L y h hB
    rcases DataW.trod_slice Tryz.underlying22 h with ⟨e, _⟩ | ⟨a, len, cap, elems, rest, n1, hn, e, rfl, hb, hl, hm, hlen, hel, _, _⟩
    · obtain rfl : L = .slice none 0 0 := by simpa using e
      exact ⟨[], by unfold Held; exact ⟨none, 0, rfl⟩, by simp [wAll]⟩
    · obtain rfl : L = .slice (some a) len cap := by simpa using e
      rw [show Tryz.prog.cellsOf 31 = 6 by kernel_rfl] at hel
      have hE1 : Rows.uptoBulkAll (elems.map (·.1)) + Rows.uptoBulkAll (rest.map (·.1)) + 1 ≤ B := hB
      have hE : Rows.uptoBulkAll (elems.map (·.1)) ≤ B := by omega
      have hln : len ≤ B := by
        have := bulk_len (elems.map (·.1))
        simp only [List.length_map] at this
        omega
      have each : ∀ i, i < len → ∃ k b m t x l p, (∀ j v, [Value.int .i64 k, .bool b, .int .i64 m, .string t, .string x, p][j]? = some v → W.cell? ((a.add (i * 6)).add j) = some v) ∧ Fine m t x (List.length (α := Val) l) ∧ Held W p l ∧ ∀ h : i < elems.length, 1 + t.size + x.size + wAll l ≤ Rows.uptoBulk elems[i].1 := by
        intro i hi
        have h1 := hel i hi
        have hi' : i < elems.length := by omega
        rw [List.getElem?_eq_getElem hi', Option.bind_eq_some_iff] at h1
        obtain ⟨cs, hcs, hy⟩ := h1
        obtain ⟨c1, c2⟩ := mapM_cells hcs
        obtain ⟨n', k, b, m, t, x, p, yl, hn', rfl, hp, hpl, wm⟩ := value_of_trodW hy
        have hbe : Rows.uptoBulk elems[i].1 ≤ B := Nat.le_trans (bulk_mem (List.mem_map_of_mem (List.getElem_mem hi'))) hE
        obtain ⟨l, hheld, hll⟩ := IH n' (by omega) p yl hp (by omega)
        obtain ⟨w1, w2⟩ := i64_wf wm
        have hll2 := wAll_len l
        refine ⟨k, b, m, t, x, l, p, fun j v hv => ?_, ⟨by omega, by omega, by omega, w1, w2⟩, hheld, fun _ => by omega⟩
        have hj : j < 6 := by
          have := (List.getElem?_eq_some_iff.1 hv).1
          simpa using this
        rw [c2 j hj, hv]
      by_cases h0 : len = 0
      · subst h0
        exact ⟨[], by unfold Held; exact ⟨some a, cap, rfl⟩, by simp [wAll]⟩
      · have hsp : a.spot = none := by
          obtain ⟨k, b, m, t, x, l, p, hc, _, _, _⟩ := each 0 (by omega)
          have h0 := hc 0 _ rfl
          cases kk : a.spot with
          | none => rfl
          | some mm =>
            rw [show (a.add (0 * 6)).add 0 = a by simp [Addr.add]] at h0
            unfold World.cell? at h0
            rw [kk] at h0
            split at h0 <;> simp at h0
        obtain ⟨g, off, spot⟩ := a
        simp only at hsp
        subst hsp
        have build : ∀ m, m ≤ len → ∃ l : List Val, l.length = m ∧ Holds W g (off + (len - m) * 6) l ∧ wAll l ≤ Rows.uptoBulkAll ((elems.map (·.1)).drop (len - m)) := by
          intro m
          induction m with
          | zero => exact fun _ => ⟨[], rfl, by unfold Holds; trivial, by simp [wAll]⟩
          | succ m ih =>
            intro hm1
            obtain ⟨l, hll, hh, hwl⟩ := ih (by omega)
            obtain ⟨k, b, mm, t, x, q, p, hc, hf, hp, hwe⟩ := each (len - (m + 1)) (by omega)
            have ea : ∀ j, ((⟨g, off, none⟩ : Addr).add ((len - (m + 1)) * 6)).add j = ⟨g, off + (len - (m + 1)) * 6 + j, none⟩ := fun j => by rw [add_none, add_none]
            refine ⟨.mk k b mm t x q :: l, by simp [hll], ?_⟩
            have hi2 : len - (m + 1) < elems.length := by omega
            have hd : (elems.map (·.1)).drop (len - (m + 1)) = elems[len - (m + 1)].1 :: (elems.map (·.1)).drop (len - m) := by
              rw [List.drop_eq_getElem_cons (by simpa using hi2), List.getElem_map, show len - (m + 1) + 1 = len - m by omega]
            refine ⟨?_, ?_⟩
            rotate_left
            · rw [hd]
              have := hwe hi2
              unfold wAll wOne Rows.uptoBulkAll
              omega
            unfold Holds
            refine ⟨?_, ?_⟩
            · unfold HoldsOne
              have hcj := fun j v hv => (congrArg W.cell? (ea j)).symm.trans (hc j v hv)
              exact ⟨hcj 0 _ rfl, hcj 1 _ rfl, hcj 2 _ rfl, hcj 3 _ rfl, hcj 4 _ rfl, hf, p, hcj 5 _ rfl, hp⟩
            · rw [show off + (len - (m + 1)) * 6 + 6 = off + (len - m) * 6 by omega]
              exact hh
        obtain ⟨l, hll, hh, hwl⟩ := build len (Nat.le_refl _)
        rw [Nat.sub_self, Nat.zero_mul, Nat.add_zero] at hh
        rw [Nat.sub_self, List.drop_zero] at hwl
        refine ⟨l, ?_, by show wAll l ≤ Rows.uptoBulkAll (elems.map (·.1)) + Rows.uptoBulkAll (rest.map (·.1)) + 1; omega⟩
        cases l with
        | nil => simp at hll; omega
        | cons v r =>
          unfold Holds at hh
          unfold Held
          exact ⟨g, off, cap, by rw [← hll]; rfl, hh.1, hh.2⟩
end Go.Proofs.YtffbcccbhofbpaaGreatDoor

/- The library's copying of a string, by the library's own contract. -/
namespace Go.Proofs
open Go.Shelf
def Tryz.laysM316g_ren : Go.Shelf.Ren := ⟨fun | 316 => 55 | n => n, fun | 9 => 9 | 3 => 3 | 4 => 4 | 37 => 57 | 0 => 0 | 127 => 124 | 5 => 5 | n => n, fun | n => n⟩
theorem Tryz.laysM316g : Go.Proofs.LaysM.n316 Tryz.prog Tryz.laysM316g_ren := {
  mixed := by kernel_rfl
  f316 := Tryz.func55.trans (congrArg some (by kernel_rfl))
  t0 := Tryz.underlying0
  a0 := Tryz.isAgg0
  z0 := Tryz.sizeOf0
  v0 := Tryz.zeroValue0
  t3 := Tryz.underlying3
  a3 := Tryz.isAgg3
  z3 := Tryz.sizeOf3
  v3 := Tryz.zeroValue3
  t4 := Tryz.underlying4
  a4 := Tryz.isAgg4
  z4 := Tryz.sizeOf4
  v4 := Tryz.zeroValue4
  t9 := Tryz.underlying9
  a9 := Tryz.isAgg9
  z9 := Tryz.sizeOf9
  v9 := Tryz.zeroValue9
  t37 := Tryz.underlying57
  a37 := Tryz.isAgg57
  z37 := Tryz.sizeOf57
  v37 := Tryz.zeroValue57
  t127 := Tryz.underlying124
  a127 := Tryz.isAgg124
  z127 := Tryz.sizeOf124
  v127 := Tryz.zeroValue124
  t5 := Tryz.underlying5
  a5 := Tryz.isAgg5
  z5 := Tryz.sizeOf5
  v5 := Tryz.zeroValue5
  i0 := by kernel_rfl
  i3 := by kernel_rfl
  i4 := by kernel_rfl
  i5 := by kernel_rfl
  i9 := by kernel_rfl
  i37 := by kernel_rfl
  i127 := by kernel_rfl }
open Go.RowKit in
/-- internal/stringslite.Clone (what strings.Clone calls): "Clone returns a fresh copy of s.": THE SAME BYTES. Of what was there nothing has turned (a new row is laid, and frozen, where s is not empty). (LAID: no walk: one application.) -/
theorem Tryz.stringslite_Clone (s : ByteArray) (w : World) (hlim : s.size ≤ 281474976710656) :
    Calls Tryz.prog 55 #[.string s] w fun e w' => e = .returned (.string s) ∧ Below w.heap.size w w' := Any.stringslite_Clone Tryz.laysM316g s w hlim
end Go.Proofs

/- What a call leaves alone: all blocks but those of the things that it was handed. -/
namespace Go.Proofs.YtffbcccbhofbpaaGreatDoor
open Go.RowKit

/-- But for the blocks in F, and new ones, the world w' is as w was. -/
structure Ch (F : Nat → Prop) (w w' : World) : Prop where
  os : w'.os = w.os
  tape : w'.tape = w.tape
  output : w'.output = w.output
  size : w.heap.size ≤ w'.heap.size
  block : ∀ k, k < w.heap.size → ¬ F k → w'.heap[k]? = w.heap[k]?

section
variable {F G : Nat → Prop} {w w' w2 : World}
theorem Ch.refl (F : Nat → Prop) (w : World) : Ch F w w := ⟨rfl, rfl, rfl, Nat.le_refl _, fun _ _ _ => rfl⟩
theorem Ch.mono (h : Ch F w w') (k : ∀ i, i < w.heap.size → F i → G i) : Ch G w w' :=
  ⟨h.os, h.tape, h.output, h.size, fun i hi n => h.block i hi fun f => n (k i hi f)⟩
theorem Ch.trans (h : Ch F w w') (k : Ch G w' w2) (s : ∀ i, i < w.heap.size → G i → F i) : Ch F w w2 :=
  ⟨k.os.trans h.os, k.tape.trans h.tape, k.output.trans h.output, Nat.le_trans h.size k.size, fun i hi n => (k.block i (Nat.lt_of_lt_of_le hi h.size) fun g => n (s i hi g)).trans (h.block i hi n)⟩
theorem Ch.of_below (h : Below w.heap.size w w') : Ch F w w' := ⟨h.os, h.tape, h.output, h.size, fun k hk _ => h.block k hk⟩
theorem Ch.below {B : Nat} (h : Ch F w w') (hB : B ≤ w.heap.size) (s : ∀ i, F i → B ≤ i) : Below B w w' :=
  ⟨h.os, h.tape, h.output, h.size, fun k hk => h.block k (by omega) fun f => by have := s k f; omega⟩
theorem Ch.alloc (h : Ch F w w') (o : Obj) : Ch F w (w'.alloc o) := h.trans (G := F) (Ch.of_below (below1 w' o)) fun _ _ g => g
theorem Ch.drewN (h : Ch F w w') (n : Nat) : Ch F w (w'.drewN n) := ⟨h.os, h.tape, h.output, h.size, h.block⟩
theorem Ch.setCell (h : Ch F w w') {a : Addr} (ha : F a.block ∨ w.heap.size ≤ a.block) (v : Value) : Ch F w (w'.setCell a v) :=
  ⟨h.os, h.tape, h.output, by simpa [World.setCell] using h.size, fun k hk n => (Below.heap_setCell _ _ _ _ (fun e => by rcases ha with f | g; exact n (e ▸ f); omega)).trans (h.block k hk n)⟩
theorem Ch.of_grown {row : Option Nat} (h : w.grownBy w' row) : Ch (fun i => row = some i) w w' :=
  ⟨h.os, h.tape, h.output, h.size, fun k hk n => h.block k hk fun e => n e.symm⟩
end

/-- A call on a thing that lies in the blocks F; behind it, it lies in F'. -/
structure Turn (F F' : Nat → Prop) (w w' : World) : Prop where
  ch : Ch F w w'
  foot : ∀ i, F' i → F i ∨ w.heap.size ≤ i

theorem row_keep {w w' : World} {e s : Nat} {v : Value} {n : Nat} {xs : List Value} (h : w.ownsRow 0 e s v n xs) (k : ∀ i, v.ownBlock = some i → w'.heap[i]? = w.heap[i]?) : w'.ownsRow 0 e s v n xs := by
  refine ⟨h.1, ?_⟩
  rcases h.2 with h0 | ⟨g, cap, cur, rfl, h1, h2, h3⟩
  · exact .inl h0
  · exact .inr ⟨g, cap, cur, rfl, h1, (k g rfl).trans h2, h3⟩
theorem row_lt {w : World} {e s : Nat} {v : Value} {n : Nat} {xs : List Value} (h : w.ownsRow 0 e s v n xs) {i : Nat} (hi : v.ownBlock = some i) : i < w.heap.size := by
  rcases h.2 with ⟨rfl, _⟩ | ⟨g, cap, cur, rfl, h1, h2, h3⟩
  · cases hi
  · cases hi; exact lt_of_heap h2
theorem row_not {w : World} {e s t : Nat} {v : Value} {n : Nat} {xs : List Value} {c : Array Value} (h : w.ownsRow 0 e s v n xs) {g : Nat} (hg : w.heap[g]? = some (.cells c t)) (ht : t ≠ e) : v.ownBlock ≠ some g := by
  intro hi
  rcases h.2 with ⟨rfl, _⟩ | ⟨g', cap, cur, rfl, h1, h2, h3⟩
  · cases hi
  · cases hi; rw [hg] at h2; cases h2; exact ht rfl
theorem row_notMap {w : World} {e s : Nat} {v : Value} {n : Nat} {xs : List Value} {c : Array MapEntry} {t : Nat} (h : w.ownsRow 0 e s v n xs) {g : Nat} (hg : w.heap[g]? = some (.map c t)) : v.ownBlock ≠ some g := by
  intro hi
  rcases h.2 with ⟨rfl, _⟩ | ⟨g', cap, cur, rfl, h1, h2, h3⟩
  · cases hi
  · cases hi; rw [hg] at h2; cases h2
theorem row_slice {w : World} {e s : Nat} {v : Value} {n : Nat} {xs : List Value} (h : w.ownsRow 0 e s v n xs) : ∃ p cap, v = .slice p n cap := by
  rcases h.2 with ⟨rfl, rfl⟩ | ⟨g, cap, cur, rfl, _⟩
  · exact ⟨_, _, rfl⟩
  · exact ⟨_, _, rfl⟩
theorem row_cell {w : World} {e : Nat} {v : Value} {n : Nat} {xs : List Value} (h : w.ownsRow 0 e 1 v n xs) (j : Nat) (hj : j < n) : ∃ g cap, v = .slice (some ⟨g, 0, none⟩) n cap ∧ n ≤ cap ∧ w.cell? ⟨g, j, none⟩ = xs[j]? := by
  obtain ⟨h0, h⟩ := h
  rcases h with ⟨rfl, rfl⟩ | ⟨g, cap, cur, rfl, h1, h2, h3, h4, h5, h6⟩
  · omega
  · refine ⟨g, cap, rfl, h3, ?_⟩
    have e1 : xs[j]? = cur[j]? := by rw [← h6, List.getElem?_take, if_pos (by omega)]; simp
    rw [e1]; simp [World.cell?, h2]
theorem map_keep {w w' : World} {k e b n : Nat} {D : DataW Unit} (h : w.ownsMap Tryz.prog k (plainElem Tryz.prog e) b n D) (q : w'.heap[b]? = w.heap[b]?) : w'.ownsMap Tryz.prog k (plainElem Tryz.prog e) b n D := by
  obtain ⟨es, clock, hb, r⟩ := h
  exact ⟨es, clock, q.trans hb, r⟩
theorem map_block {w : World} {k e b n : Nat} {D : DataW Unit} (h : w.ownsMap Tryz.prog k (plainElem Tryz.prog e) b n D) : ∃ es clock, w.heap[b]? = some (.map es clock) := by
  obtain ⟨es, clock, hb, r⟩ := h
  exact ⟨es, clock, hb⟩
end Go.Proofs.YtffbcccbhofbpaaGreatDoor

/- A text that is laid down is copied. -/
namespace Go.Proofs.YtffbcccbhofbpaaGreatDoor
open Go.RowKit

theorem ta130 (p : Option Addr) (w : World) : (Instr.typeAssert (.iface 85 (.pointer p)) 20 85 true).run Tryz.prog w = .ok (.tuple #[.pointer p, .bool true]) w := by kernel_rfl
theorem cloneAt (s : ByteArray) (w : World) (h : s.size ≤ maxLen) (h2 : s.size ≤ 281474976710656) :
    Calls Tryz.prog 42 #[.string s] w fun e w' => e = .returned (.string s) ∧ Below w.heap.size w w' := by
  go_enter Tryz.func42, Tryz.ntmps42
  go_wp2_with (go_at_call 55; (with_reducible refine (Tryz.stringslite_Clone s _ h2).mono ?_); rintro e w' ⟨rfl, hb⟩)
  go_ret
  exact ⟨rfl, hb⟩
theorem ownStr (s : ByteArray) (w : World) (h : s.size ≤ maxLen) (h2 : s.size ≤ 281474976710656) :
    Calls Tryz.prog 37 #[.string s] w fun e w' => e = .returned (.string s) ∧ Below w.heap.size w w' := by
  obtain ⟨W0, hW0⟩ : ∃ W0, W0 = w.alloc (.cells #[.string s] 9) := ⟨_, rfl⟩
  have hb0 : Below w.heap.size w W0 := by rw [hW0]; exact below1 _ _
  have hc0 : W0.heap[w.heap.size]? = some (.cells #[.string s] 9) := by rw [hW0]; exact heap_new _ _ rfl
  have c0 := cell_of hc0 0 rfl
  have H0 := Lib.hid hW0
  clear hW0
  go_enter Tryz.func37, Tryz.ntmps37
  go_wp2_with (first
    | (simp only [ta130, Result.andThen_ok])
    | (go_at_call 42; rw [← H0.out]; (with_reducible refine (cloneAt s _ h h2).mono ?_); rintro e w1 ⟨rfl, hb⟩; have hc1 := (hb.block _ (lt_of_heap hc0)).trans hc0; have b1 := below_any hb0 hb hb0.size; have c1 := cell_of hc1 0 rfl; have f1 := free_of hc1 0))
  go_ret
  exact ⟨rfl, below_set b1 none _ (Nat.le_refl _) b1.size⟩
end Go.Proofs.YtffbcccbhofbpaaGreatDoor

/- A dictionary of texts: a new one. -/
namespace Go.Proofs.YtffbcccbhofbpaaGreatDoor
open Go.RowKit

theorem law9 : Go.Maps.Keyed Tryz.prog 9 := Go.Maps.string_keyed Tryz.underlying9
theorem zeroI (w : World) : (zeroValue 3).run Tryz.prog w = .ok (.int .i64 0) w := by kernel_rfl
theorem info79 : (Tryz.prog.info? 52).map (·.size) = some 2 := by kernel_rfl
theorem info82 : (Tryz.prog.info? 66).map (·.size) = some 2 := by kernel_rfl

/-- What a map holds that numbers texts. -/
def Reads (D : DataW Unit) (l : List ByteArray) : Prop :=
  ∀ k : ByteArray, (k ∈ l → Maps.has D (.string k.data.toList) = true) ∧ (k ∉ l → Maps.has D (.string k.data.toList) = false) ∧ ∀ (j : Nat), l[j]? = some k → ∀ z, D.atKey (.string k.data.toList) z = .lit (.int .i64 j)
/-- A dictionary of texts l lies at block g; its blocks are F. -/
def Dic (w : World) (g : Nat) (l : List ByteArray) (F : Nat → Prop) : Prop :=
  ∃ T, T ≠ 9 ∧ ∃ bm v D, w.heap[g]? = some (.cells #[.map (some bm), v] T) ∧ w.ownsMap Tryz.prog 9 (plainElem Tryz.prog 3) bm l.length D ∧ Reads D l ∧ w.ownsRow 0 9 1 v l.length (l.map Value.string) ∧ l.Nodup ∧ (∀ s ∈ l, s.size ≤ maxLen ∧ s.size ≤ 281474976710656) ∧ ∀ i, F i ↔ i = g ∨ i = bm ∨ v.ownBlock = some i
theorem Dic.lt {w : World} {g : Nat} {l : List ByteArray} {F : Nat → Prop} (h : Dic w g l F) {i : Nat} (hi : F i) : i < w.heap.size := by
  obtain ⟨T, hT, bm, v, D, h1, h2, h3, h4, h5, h6, h7⟩ := h
  rcases (h7 i).1 hi with rfl | rfl | e
  · exact lt_of_heap h1
  · exact h2.lt
  · exact row_lt h4 e
theorem Dic.keep {w w' : World} {g : Nat} {l : List ByteArray} {F : Nat → Prop} (h : Dic w g l F) (k : ∀ i, F i → w'.heap[i]? = w.heap[i]?) : Dic w' g l F := by
  obtain ⟨T, hT, bm, v, D, h1, h2, h3, h4, h5, h6, h7⟩ := h
  exact ⟨T, hT, bm, v, D, (k g ((h7 g).2 (.inl rfl))).trans h1, map_keep h2 (k bm ((h7 bm).2 (.inr (.inl rfl)))), h3, row_keep h4 fun i hi => k i ((h7 i).2 (.inr (.inr hi))), h5, h6, h7⟩
theorem Dic.below {w w' : World} {g : Nat} {l : List ByteArray} {F : Nat → Prop} (h : Dic w g l F) (k : Below w.heap.size w w') : Dic w' g l F := h.keep fun i hi => k.block i (h.lt hi)
theorem Dic.ch {w w' : World} {g : Nat} {l : List ByteArray} {F G : Nat → Prop} (h : Dic w g l F) (k : Ch G w w') (d : ∀ i, F i → ¬ G i) : Dic w' g l F := h.keep fun i hi => k.block i (h.lt hi) (d i hi)

set_option maxRecDepth 20000 in
set_option maxHeartbeats 1600000 in
theorem newNumAt (w : World) : Calls Tryz.prog 22 #[] w fun e w' => e = .returned (.agg #[.map (some (w.heap.size + 1)), .slice none 0 0]) ∧ Below w.heap.size w w' ∧ w'.heap[w.heap.size + 1]? = some (.map #[] 0) := by
  have hmm := @run_makeMap Tryz.prog
  go_enter Tryz.func22, Tryz.ntmps22
  go_wp2_with fail
  refine bodyPost_ret (v := .agg #[.map (some (w.heap.size + 1)), .slice none 0 0]) (results_cell_row (p := 0) (ty := 52) Tryz.results22 _ _ w.heap.size 52 #[.map (some (w.heap.size + 1)), .slice none 0 0] (0, 0) _ rfl ?_ Tryz.underlying52 rfl info79) rfl ⟨rfl, ?_, ?_⟩
  · exact heap_old _ (heap_new _ _ rfl)
  · exact below2 _ _ _
  · exact heap_new _ _ (by simp)
theorem Dic.d1 {w : World} {g T : Nat} {bm : Nat} {v : Value} (h1 : w.heap[g]? = some (.cells #[.map (some bm), v] T)) : w.cell? ⟨g, 0, none⟩ = some (.map (some bm)) ∧ w.cell? ⟨g, 1, none⟩ = some v ∧ w.frozen? ⟨g, 1, none⟩ = false :=
  ⟨cell_of h1 0 rfl, cell_of h1 1 rfl, free_of h1 1⟩
set_option maxRecDepth 20000 in
set_option maxHeartbeats 1600000 in
theorem countAtG (w : World) (g : Nat) (l : List ByteArray) (F : Nat → Prop) (h : Dic w g l F) :
    Calls Tryz.prog 28 #[.pointer (some ⟨g, 0, none⟩)] w fun e w' => e = .returned (.int .i64 l.length) ∧ w = w' := by
  obtain ⟨T, hT, bm, v, D, h1, h2, h3, h4, h5, h6, h7⟩ := h
  obtain ⟨p, cap, rfl⟩ := row_slice h4
  obtain ⟨c0, c1, f1⟩ := Dic.d1 h1
  clear h3 h6 h7
  go_enter Tryz.func28, Tryz.ntmps28
  go_wp2_with fail
  go_ret
  exact ⟨rfl, rfl⟩
/-- A dictionary with nothing in it. -/
theorem dic_new {w : World} {g bm T : Nat} (hT : T ≠ 9) (h1 : w.heap[g]? = some (.cells #[.map (some bm), .slice none 0 0] T)) (h2 : w.heap[bm]? = some (.map #[] 0)) : Dic w g [] fun i => i = g ∨ i = bm := by
  refine ⟨T, hT, bm, .slice none 0 0, .map [], h1, ⟨#[], 0, h2, ?_⟩, ?_, ?_, List.nodup_nil, by simp, fun i => by simp [Value.ownBlock]⟩
  · obtain ⟨es, clock, e, r⟩ := World.ownsMap_made w Tryz.prog 9 (plainElem (H := Unit) Tryz.prog 3)
    have e2 : (w.alloc (.map #[] 0)).heap[w.heap.size]? = some (.map #[] 0) := heap_new _ _ rfl
    rw [e2] at e
    cases e
    exact r
  · intro k
    exact ⟨by simp, fun _ => rfl, by simp⟩
  · exact World.ownsRow_nil _ _ _ _
set_option maxRecDepth 20000 in
set_option maxHeartbeats 1600000 in
theorem newAt (w : World) : Calls Tryz.prog 14 #[] w fun e w' => ∃ g F, e = .returned (.pointer (some ⟨g, 0, none⟩)) ∧ Below w.heap.size w w' ∧ Dic w' g [] F ∧ ∀ i, F i → w.heap.size ≤ i := by
  go_enter Tryz.func14, Tryz.ntmps14
  go_wp2_with (go_at_call 22; (with_reducible refine (newNumAt _).mono ?_); rintro e w1 ⟨rfl, hb, hm⟩)
  go_ret
  have z1 := lt_of_heap hm
  exact ⟨_, _, rfl, hb.alloc hb.size _, dic_new (by decide) (heap_new _ _ rfl) (heap_old _ hm), by rintro i (rfl | rfl) <;> omega⟩
set_option maxRecDepth 20000 in
set_option maxHeartbeats 1600000 in
theorem LenAt (w : World) (g : Nat) (l : List ByteArray) (F : Nat → Prop) (h : Dic w g l F) :
    Calls Tryz.prog 19 #[.pointer (some ⟨g, 0, none⟩)] w fun e w' => e = .returned (.int .i64 l.length) ∧ w = w' := by
  go_enter Tryz.func19, Tryz.ntmps19
  go_wp2_with (go_at_call 28; (with_reducible refine (countAtG w g l F h).mono ?_); rintro e w1 ⟨rfl, rfl⟩)
  go_ret
  exact ⟨rfl, rfl⟩
end Go.Proofs.YtffbcccbhofbpaaGreatDoor

/- A dictionary of texts: a key by its number; a number for a key. -/
namespace Go.Proofs.YtffbcccbhofbpaaGreatDoor
open Go.RowKit

set_option maxRecDepth 20000 in
set_option maxHeartbeats 1600000 in
theorem keyYes (w : World) (g : Nat) (l : List ByteArray) (F : Nat → Prop) (h : Dic w g l F) (j : Nat) (k : ByteArray) (hk : l[j]? = some k) (hn : l.length ≤ maxLen) :
    Calls Tryz.prog 30 #[.pointer (some ⟨g, 0, none⟩), .int .i64 j] w fun e w' => e = .returned (.tuple #[.string k, .bool true]) ∧ Below w.heap.size w w' := by
  obtain ⟨T, hT, bm, v, D, h1, h2, h3, h4, h5, h6, h7⟩ := h
  have hj : j < l.length := (List.getElem?_eq_some_iff.1 hk).1
  obtain ⟨r, cap, rfl, hcap, hcell⟩ := row_cell h4 j hj
  have hcell' : w.cell? ⟨r, j, none⟩ = some (.string k) := by rw [hcell]; simp [hk]
  obtain ⟨s1, s2⟩ := h6 k (List.mem_of_getElem? hk)
  obtain ⟨c0, c1, f1⟩ := Dic.d1 h1
  clear h3 h6 h7 hk hcell
  unfold maxLen at hn
  go_enter Tryz.func30, Tryz.ntmps30
  go_wp2_with (go_at_call 37; (with_reducible refine (ownStr k _ s1 s2).mono ?_); rintro e w1 ⟨rfl, hb⟩)
  go_ret2
  exact ⟨rfl, hb⟩
set_option maxRecDepth 20000 in
set_option maxHeartbeats 1600000 in
theorem keyNo (w : World) (g : Nat) (l : List ByteArray) (F : Nat → Prop) (h : Dic w g l F) (j : Int) (hj : j < 0 ∨ (l.length : Int) ≤ j) :
    Calls Tryz.prog 30 #[.pointer (some ⟨g, 0, none⟩), .int .i64 j] w fun e w' => e = .returned (.tuple #[.string ⟨#[]⟩, .bool false]) ∧ Below w.heap.size w w' := by
  obtain ⟨T, hT, bm, v, D, h1, h2, h3, h4, h5, h6, h7⟩ := h
  obtain ⟨p, cap, rfl⟩ := row_slice h4
  obtain ⟨c0, c1, f1⟩ := Dic.d1 h1
  clear h3 h6 h7
  by_cases h0 : j < 0
  · clear hj
    go_enter Tryz.func30, Tryz.ntmps30
    go_wp2_with fail
    go_ret2
    exact ⟨rfl, Below.refl _ _⟩
  · have h2 : (l.length : Int) ≤ j := by omega
    clear hj
    go_enter Tryz.func30, Tryz.ntmps30
    go_wp2_with fail
    go_ret2
    exact ⟨rfl, Below.refl _ _⟩
end Go.Proofs.YtffbcccbhofbpaaGreatDoor
