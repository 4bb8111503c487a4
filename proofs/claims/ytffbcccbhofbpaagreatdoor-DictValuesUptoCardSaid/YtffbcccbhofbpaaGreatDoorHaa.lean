/- Texts of one kind, one behind the other: each says ahead of itself what it shows. -/
import Derived.KernelRfl
import Derived.Test.YtffbcccbhofbpaaGreatDoorProg
import Derived.WalkKit
import Derived.WalkSpells
import Derived.Outline
import Derived.LoopTactic
import Derived.Lib.Hide
import Derived.Below
import Derived.Deep.QuietTactic
import Derived.BigQuiet
import Derived.Laws.Rows
import Derived.Laws.Tables
import Derived.Deep.MidRow
import Derived.Lib.IndexMore
import Derived.Lib.TrimByte
import Derived.BigGuardPart
/- Plain facts on numbers kept as rows of sixteen nine-digit words. No Go stands here. -/
namespace Go.Proofs.YtffbcccbhofbpaaGreatDoor

/-- One more than the greatest word. -/
def BASE : Nat := 1000000000
/-- What the lowest n words say. -/
def vN : Nat → (Nat → Nat) → Nat
  | 0, _ => 0
  | n + 1, f => vN n f + f n * BASE ^ n
/-- What sixteen words say. -/
def wval (f : Nat → Nat) : Nat := vN 16 f
/-- All words are words. -/
def Words (f : Nat → Nat) : Prop := ∀ j, j < 16 → f j < BASE
/-- f with v at k. -/
def upd (f : Nat → Nat) (k v : Nat) : Nat → Nat := fun j => if j = k then v else f j

theorem upd_same (f : Nat → Nat) (k v : Nat) : upd f k v k = v := by simp [upd]
theorem upd_other (f : Nat → Nat) {k j : Nat} (v : Nat) (h : j ≠ k) : upd f k v j = f j := by simp [upd, h]
theorem Words.upd {f : Nat → Nat} (h : Words f) {k v : Nat} (hv : v < BASE) : Words (upd f k v) := by
  intro j hj
  by_cases e : j = k
  · subst e; rw [upd_same]; exact hv
  · rw [upd_other _ _ e]; exact h j hj

theorem vN_congr (f g : Nat → Nat) (n : Nat) (h : ∀ j, j < n → f j = g j) : vN n f = vN n g := by
  induction n with
  | zero => rfl
  | succ n ih => simp only [vN]; rw [ih (fun j hj => h j (by omega)), h n (by omega)]

theorem vN_upd (f : Nat → Nat) (k v n : Nat) (h : n ≤ k) : vN n (upd f k v) = vN n f :=
  vN_congr _ _ _ fun j hj => upd_other _ _ (by omega)

theorem vN_lt (f : Nat → Nat) (h : Words f) (n : Nat) (hn : n ≤ 16) : vN n f < BASE ^ n := by
  induction n with
  | zero => simp [vN]
  | succ n ih =>
    have hj := h n (by omega)
    have ih := ih (by omega)
    have : f n * BASE ^ n + BASE ^ n ≤ BASE ^ (n + 1) := by
      have : (f n + 1) * BASE ^ n ≤ BASE * BASE ^ n := Nat.mul_le_mul_right _ hj
      rw [Nat.pow_succ, Nat.mul_comm (BASE ^ n)]
      rw [Nat.add_mul, Nat.one_mul] at this
      exact this
    simp only [vN]; omega

theorem wval_lt (f : Nat → Nat) (h : Words f) : wval f < BASE ^ 16 := vN_lt f h 16 (by omega)

theorem vN_le_of_lt (f g : Nat → Nat) (hx : Words f) (k : Nat) (hk : k ≤ 16) (h : f k < g k) : vN (k + 1) f < vN (k + 1) g := by
  have h1 := vN_lt f hx k hk
  have : f k * BASE ^ k + BASE ^ k ≤ g k * BASE ^ k := by
    have : (f k + 1) * BASE ^ k ≤ g k * BASE ^ k := Nat.mul_le_mul_right _ h
    rw [Nat.add_mul, Nat.one_mul] at this
    exact this
  simp only [vN]; omega

theorem vN_above (f g : Nat → Nat) (k n : Nat) (h : k ≤ n) (he : ∀ j, k ≤ j → j < n → f j = g j) :
    (vN n f : Int) - vN n g = (vN k f : Int) - vN k g := by
  induction n with
  | zero => obtain rfl : k = 0 := by omega
            rfl
  | succ n ih =>
    by_cases hk : k = n + 1
    · subst hk; rfl
    · have := ih (by omega) (fun j a b => he j a (by omega))
      have e := he n (by omega) (by omega)
      simp only [vN, e]; omega

theorem wval_lt_of (f g : Nat → Nat) (hx : Words f) (k : Nat) (hk : k < 16) (he : ∀ j, k < j → j < 16 → f j = g j)
    (h : f k < g k) : wval f < wval g := by
  have a := vN_above f g (k + 1) 16 (by omega) (fun j p q => he j (by omega) q)
  have b := vN_le_of_lt f g hx k (by omega) h
  unfold wval; omega

theorem wval_eq_of (f g : Nat → Nat) (he : ∀ j, j < 16 → f j = g j) : wval f = wval g := vN_congr _ _ _ he

/-- -1, 0 or 1. -/
def cmpI (a b : Nat) : Int := if a < b then -1 else if b < a then 1 else 0
theorem cmpI_lt {a b : Nat} (h : a < b) : cmpI a b = -1 := by simp [cmpI, h]
theorem cmpI_gt {a b : Nat} (h : b < a) : cmpI a b = 1 := by simp [cmpI, h]; omega
theorem cmpI_eq {a b : Nat} (h : a = b) : cmpI a b = 0 := by simp [cmpI, h]

/-- After k rounds of adding g to f: h so far, c over. -/
structure AddTo (f g h : Nat → Nat) (c k : Nat) : Prop where
  sum : vN k h + c * BASE ^ k = vN k f + vN k g
  rest : ∀ j, k ≤ j → h j = f j
  words : Words h
  one : c ≤ 1

theorem AddTo.zero {f g : Nat → Nat} (hf : Words f) : AddTo f g f 0 0 := ⟨by simp [vN], fun _ _ => rfl, hf, by omega⟩
theorem AddTo.step {f g h : Nat → Nat} {c k : Nat} (H : AddTo f g h c k) (hf : Words f) (hg : Words g) (hk : k < 16) :
    AddTo f g (upd h k ((h k + g k + c) % BASE)) ((h k + g k + c) / BASE) (k + 1) := by
  have e := H.rest k (Nat.le_refl _)
  have h1 := hf k hk
  have h2 := hg k hk
  have h3 := H.one
  refine ⟨?_, ?_, H.words.upd (Nat.mod_lt _ (by decide)), ?_⟩
  · simp only [vN, upd_same, vN_upd _ _ _ _ (Nat.le_refl _)]
    have d := Nat.div_add_mod (h k + g k + c) BASE
    have s := H.sum
    generalize (h k + g k + c) / BASE = q at *
    generalize (h k + g k + c) % BASE = r at *
    rw [← e, Nat.pow_succ]
    have : q * (BASE ^ k * BASE) = BASE * q * BASE ^ k := by rw [Nat.mul_comm (BASE ^ k), ← Nat.mul_assoc, Nat.mul_comm q]
    rw [this]
    have d2 : (BASE * q + r) * BASE ^ k = (h k + g k + c) * BASE ^ k := by rw [d]
    simp only [Nat.add_mul] at d2 ⊢
    omega
  · intro j hj
    rw [upd_other _ _ (by omega)]
    exact H.rest j (by omega)
  · unfold BASE at *; omega

/-- After k rounds of taking g away from f: h so far, c borrowed. -/
structure TakeFrom (f g h : Nat → Nat) (c k : Nat) : Prop where
  sum : vN k h + vN k g = vN k f + c * BASE ^ k
  rest : ∀ j, k ≤ j → h j = f j
  words : Words h
  one : c ≤ 1

theorem TakeFrom.zero {f g : Nat → Nat} (hf : Words f) : TakeFrom f g f 0 0 := ⟨by simp [vN], fun _ _ => rfl, hf, by omega⟩
theorem TakeFrom.step {f g h : Nat → Nat} {c k : Nat} (H : TakeFrom f g h c k) (hf : Words f) (hg : Words g) (hk : k < 16) :
    TakeFrom f g (upd h k ((BASE + h k - g k - c) % BASE)) (1 - (BASE + h k - g k - c) / BASE) (k + 1) := by
  have e := H.rest k (Nat.le_refl _)
  have h1 := hf k hk
  have h2 := hg k hk
  have h3 := H.one
  refine ⟨?_, ?_, H.words.upd (Nat.mod_lt _ (by decide)), Nat.sub_le _ _⟩
  · simp only [vN, upd_same, vN_upd _ _ _ _ (Nat.le_refl _)]
    have s := H.sum
    have d : (BASE + h k - g k - c) % BASE + g k + c = h k + (1 - (BASE + h k - g k - c) / BASE) * BASE := by
      rw [e]
      unfold BASE at *
      by_cases hh : f k < g k + c
      · have : (1000000000 + f k - g k - c) / 1000000000 = 0 := by omega
        rw [this]; omega
      · have : (1000000000 + f k - g k - c) / 1000000000 = 1 := by omega
        rw [this]; omega
    generalize 1 - (BASE + h k - g k - c) / BASE = q at *
    generalize (BASE + h k - g k - c) % BASE = r at *
    rw [← e, Nat.pow_succ]
    have : q * (BASE ^ k * BASE) = q * BASE * BASE ^ k := by rw [Nat.mul_comm (BASE ^ k), ← Nat.mul_assoc]
    rw [this]
    have d2 : (r + g k + c) * BASE ^ k = (h k + q * BASE) * BASE ^ k := by rw [d]
    simp only [Nat.add_mul] at d2 ⊢
    omega
  · intro j hj
    rw [upd_other _ _ (by omega)]
    exact H.rest j (by omega)

/-- After k rounds of pushing digit d below f: h so far, c over. -/
structure PushTo (f : Nat → Nat) (d : Nat) (h : Nat → Nat) (c k : Nat) : Prop where
  sum : vN k h + c * BASE ^ k = vN k f * 10 + d
  rest : ∀ j, k ≤ j → h j = f j
  words : Words h
  one : c ≤ 9
theorem PushTo.zero {f : Nat → Nat} (hf : Words f) {d : Nat} (hd : d ≤ 9) : PushTo f d f d 0 := ⟨by simp [vN], fun _ _ => rfl, hf, by omega⟩
theorem PushTo.step {f h : Nat → Nat} {d c k : Nat} (H : PushTo f d h c k) (hf : Words f) (hk : k < 16) :
    PushTo f d (upd h k ((h k * 10 + c) % BASE)) ((h k * 10 + c) / BASE) (k + 1) := by
  have e := H.rest k (Nat.le_refl _)
  have h1 := hf k hk
  have h3 := H.one
  refine ⟨?_, ?_, H.words.upd (Nat.mod_lt _ (by decide)), ?_⟩
  · simp only [vN, upd_same, vN_upd _ _ _ _ (Nat.le_refl _)]
    have dd := Nat.div_add_mod (h k * 10 + c) BASE
    have s := H.sum
    generalize (h k * 10 + c) / BASE = q at *
    generalize (h k * 10 + c) % BASE = r at *
    rw [← e, Nat.pow_succ]
    have : q * (BASE ^ k * BASE) = BASE * q * BASE ^ k := by rw [Nat.mul_comm (BASE ^ k), ← Nat.mul_assoc, Nat.mul_comm q]
    rw [this]
    have d2 : (BASE * q + r) * BASE ^ k = (h k * 10 + c) * BASE ^ k := by rw [dd]
    have d3 : h k * BASE ^ k * 10 = h k * 10 * BASE ^ k := by rw [Nat.mul_right_comm]
    simp only [Nat.add_mul] at d2 ⊢
    omega
  · intro j hj
    rw [upd_other _ _ (by omega)]
    exact H.rest j (by omega)
  · rw [e]; unfold BASE at *; omega

end Go.Proofs.YtffbcccbhofbpaaGreatDoor

/- Words on worlds, and how a number lies in memory. -/
namespace Go.Proofs.YtffbcccbhofbpaaGreatDoor
open Go.RowKit

/-- The seventeen cells of a number. -/
structure IsNum (c : Array Value) (n : Bool) (f : Nat → Nat) : Prop where
  neg : c[0]? = some (.bool n)
  word : ∀ j, j < 16 → c[1 + j]? = some (.int .u32 (f j))
  size : c.size = 17
  lt : Words f

/-- But for block b the world w' is as w was, with new blocks. -/
structure Only (b : Nat) (w w' : World) : Prop where
  os : w'.os = w.os
  tape : w'.tape = w.tape
  output : w'.output = w.output
  size : w.heap.size ≤ w'.heap.size
  block : ∀ k, k < w.heap.size → k ≠ b → w'.heap[k]? = w.heap[k]?

theorem Only.refl (b : Nat) (w : World) : Only b w w := ⟨rfl, rfl, rfl, Nat.le_refl _, fun _ _ _ => rfl⟩
theorem Only.trans {b : Nat} {x y z : World} (h : Only b x y) (k : Only b y z) : Only b x z :=
  ⟨k.os.trans h.os, k.tape.trans h.tape, k.output.trans h.output, Nat.le_trans h.size k.size, fun i hi e => (k.block i (Nat.lt_of_lt_of_le hi h.size) e).trans (h.block i hi e)⟩
theorem Only.drewN {b : Nat} {x y : World} (h : Only b x y) (n : Nat) : Only b x (y.drewN n) := ⟨h.os, h.tape, h.output, h.size, h.block⟩
theorem Only.drew {b : Nat} {x y : World} (h : Only b x y) : Only b x y.drew := ⟨h.os, h.tape, h.output, h.size, h.block⟩
theorem Only.alloc {b : Nat} {x y : World} (h : Only b x y) (o : Obj) : Only b x (y.alloc o) :=
  h.trans ⟨rfl, rfl, rfl, by simp, fun k hk _ => Below.heap_alloc _ _ _ hk⟩
theorem Only.setCell {b : Nat} {x y : World} (h : Only b x y) (o : Nat) (s : Option Nat) (v : Value) : Only b x (y.setCell ⟨b, o, s⟩ v) :=
  h.trans ⟨rfl, rfl, rfl, by simp [World.setCell], fun _ _ e => Below.heap_setCell _ _ _ _ e⟩
theorem Only.of_below {b : Nat} {x y : World} (h : Below x.heap.size x y) : Only b x y := ⟨h.os, h.tape, h.output, h.size, fun k hk _ => h.block k hk⟩
/-- A block of the call's own was written. -/
theorem below_only {B b : Nat} {x y z : World} (h : Below B x y) (k : Only b y z) (hb : B ≤ b) (hs : B ≤ y.heap.size) : Below B x z :=
  h.trans ⟨k.os, k.tape, k.output, k.size, fun i hi => k.block i (by omega) (by omega)⟩
theorem below_drewN {B : Nat} {a w : World} (h : Below B a w) (n : Nat) : Below B a (w.drewN n) := ⟨h.os, h.tape, h.output, h.size, h.block⟩
theorem below_any {B : Nat} {x y z : World} (h : Below B x y) (k : Below y.heap.size y z) (hs : B ≤ y.heap.size) : Below B x z := h.trans (k.mono hs)

theorem cell_of {w : World} {b : Nat} {c : Array Value} {t : TypeId} (h : w.heap[b]? = some (.cells c t)) (o : Nat) {v : Value} (hv : c[o]? = some v) :
    w.cell? ⟨b, o, none⟩ = some v := by
  simp [World.cell?, h, hv]
theorem free_of {w : World} {b : Nat} {c : Array Value} {t : TypeId} (h : w.heap[b]? = some (.cells c t)) (o : Nat) : w.frozen? ⟨b, o, none⟩ = false := by
  simp [World.frozen?, h]
theorem heap_new (w : World) (o : Obj) {n : Nat} (h : w.heap.size = n) : (w.alloc o).heap[n]? = some o := by
  show (w.heap.push o)[n]? = _
  simp [← h]
theorem heap_old {w : World} (o : Obj) {n : Nat} {x : Obj} (h : w.heap[n]? = some x) : (w.alloc o).heap[n]? = some x := by
  rw [Below.heap_alloc _ _ _ (by have := Array.getElem?_eq_some_iff.1 h; obtain ⟨a, _⟩ := this; exact a)]; exact h
theorem heap_set {w : World} {b : Nat} {c : Array Value} {t : TypeId} (h : w.heap[b]? = some (.cells c t)) (o : Nat) (v : Value) :
    (w.setCell ⟨b, o, none⟩ v).heap[b]? = some (.cells (c.setIfInBounds o v) t) := by
  simp [World.setCell, Array.getElem?_modify, h]
theorem lt_of_heap {w : World} {b : Nat} {x : Obj} (h : w.heap[b]? = some x) : b < w.heap.size := by
  obtain ⟨a, _⟩ := Array.getElem?_eq_some_iff.1 h; exact a

theorem IsNum.set {c : Array Value} {n : Bool} {f : Nat → Nat} (h : IsNum c n f) {k v : Nat} (hk : k < 16) (hv : v < BASE) :
    IsNum (c.setIfInBounds (1 + k) (.int .u32 v)) n (upd f k v) := by
  refine ⟨?_, ?_, by simp [h.size], h.lt.upd hv⟩
  · rw [Array.getElem?_setIfInBounds_ne (by omega)]; exact h.neg
  · intro j hj
    by_cases e : j = k
    · subst e; rw [upd_same, Array.getElem?_setIfInBounds_self_of_lt (by rw [h.size]; omega)]
    · rw [upd_other _ _ e, Array.getElem?_setIfInBounds_ne (by omega)]; exact h.word j hj

/-- Cells that may lie in a block: one cell each. -/
theorem IsNum.one {c : Array Value} {n : Bool} {f : Nat → Nat} (h : IsNum c n f) : c.all (·.oneCell') = true := by
  rw [Array.all_eq_true]
  intro i hi
  rw [h.size] at hi
  cases i with
  | zero => have := h.neg; rw [Array.getElem?_eq_getElem (by rw [h.size]; omega)] at this; rw [Option.some.inj this]; rfl
  | succ i => have := h.word i (by omega); rw [Nat.add_comm] at this; rw [Array.getElem?_eq_getElem (by rw [h.size]; omega)] at this; rw [Option.some.inj this]; rfl

theorem heap_setRow {w : World} {g : Nat} {c c' : Array Value} {t : TypeId} (h : w.heap[g]? = some (.cells c t)) : (w.setRow g c').heap[g]? = some (.cells c' t) := by
  simp [World.setRow, Array.getElem?_modify, h]
theorem Only.setRow {b : Nat} (w : World) (c : Array Value) : Only b w (w.setRow b c) :=
  ⟨rfl, rfl, rfl, by simp [World.setRow], fun k _ e => by simp only [World.setRow, Array.getElem?_modify]; rw [if_neg (by omega)]⟩

def zero59 : Array Value := #[.bool false, .int .u32 0, .int .u32 0, .int .u32 0, .int .u32 0, .int .u32 0, .int .u32 0, .int .u32 0, .int .u32 0, .int .u32 0, .int .u32 0, .int .u32 0, .int .u32 0, .int .u32 0, .int .u32 0, .int .u32 0, .int .u32 0]
theorem isNum_zero : IsNum zero59 false (fun _ => 0) := by
  refine ⟨rfl, fun j hj => ?_, rfl, fun j _ => by decide⟩
  match j, hj with
  | 0, _ => rfl
  | 1, _ => rfl
  | 2, _ => rfl
  | 3, _ => rfl
  | 4, _ => rfl
  | 5, _ => rfl
  | 6, _ => rfl
  | 7, _ => rfl
  | 8, _ => rfl
  | 9, _ => rfl
  | 10, _ => rfl
  | 11, _ => rfl
  | 12, _ => rfl
  | 13, _ => rfl
  | 14, _ => rfl
  | 15, _ => rfl
  | k + 16, h => exact absurd h (by omega)
end Go.Proofs.YtffbcccbhofbpaaGreatDoor

/- The specification of texts of decimals: plain functions on bytes. No Go stands here. -/
namespace Go.Proofs.YtffbcccbhofbpaaGreatDoor

/-- A digit's sign. -/
def isDig (c : UInt8) : Bool := 48 ≤ c && c ≤ 57
/-- Digits, one at least. -/
def digs (l : List UInt8) : Bool := !l.isEmpty && l.all isDig
/-- Nothing is said as 0. -/
def orN (l : List UInt8) : List UInt8 := if l.isEmpty then [48] else l
/-- The text of a sign and digits, if it may be. -/
def wr (neg : Bool) (a b : List UInt8) : Option (List UInt8) :=
  let x := Lib.trimLeftB a 48
  let y := Lib.trimRightB b 48
  if 40 < x.length ∨ 20 < y.length then none
  else some ((if neg && !(x ++ y).isEmpty then [45] else []) ++ (orN x ++ 46 :: orN y))
/-- The sign ahead, and what is behind it. -/
def sgn : List UInt8 → Bool × List UInt8
  | [] => (false, [])
  | c :: r => if c = 45 then (true, r) else if c = 43 then (false, r) else (false, c :: r)
/-- Sign, digits ahead of the point, digits behind it. -/
def splitP (l : List UInt8) : Option (Bool × List UInt8 × List UInt8) :=
  let c := Lib.cut (sgn l).2 [46]
  if digs c.1 && (!c.2.2 || digs c.2.1) then some ((sgn l).1, c.1, c.2.1) else none
/-- Read: the text, or none for what has no form; some none for what is too long. -/
def readP (l : List UInt8) : Option (Option (List UInt8)) := (splitP l).map fun x => wr x.1 x.2.1 x.2.2
/-- A decimal. -/
def chk (l : List UInt8) : Bool := readP l == some (some l)

theorem isDig_iff (c : UInt8) : isDig c = true ↔ 48 ≤ (c.toNat : Int) ∧ (c.toNat : Int) ≤ 57 := by
  unfold isDig
  rw [Bool.and_eq_true, decide_eq_true_iff, decide_eq_true_iff, UInt8.le_iff_toNat_le, UInt8.le_iff_toNat_le]
  show 48 ≤ c.toNat ∧ c.toNat ≤ 57 ↔ _
  omega

end Go.Proofs.YtffbcccbhofbpaaGreatDoor

/- isDigits, orNought. -/
namespace Go.Proofs.YtffbcccbhofbpaaGreatDoor
open Go.RowKit

theorem digs_no {s : ByteArray} {k : Nat} (h : k < s.size) (hk : isDig s[k] = false) : digs s.data.toList = false := by
  unfold digs
  have : s.data.toList.all isDig = false := by
    rw [List.all_eq_false]
    exact ⟨s[k], by simp [ByteArray.getElem_eq_getElem_data], by rw [hk]; simp⟩
  rw [this, Bool.and_false]
theorem take_all {s : ByteArray} {k : Nat} (h : k < s.size) (ha : (s.data.toList.take k).all isDig = true) (hk : isDig s[k] = true) : (s.data.toList.take (k + 1)).all isDig = true := by
  rw [List.take_succ_eq_append_getElem (by simpa using h), List.all_append, ha]
  simpa [ByteArray.getElem_eq_getElem_data] using hk

set_option maxHeartbeats 400000 in
theorem isDigitsAt (s : ByteArray) (w : World) (hs : s.size ≤ maxLen) :
    Calls Tryz.prog 75 #[.string s] w fun e w' => e = .returned (.bool (digs s.data.toList)) ∧ w' = w := by
  unfold maxLen at hs
  go_enter Tryz.func75, Tryz.ntmps75
  go_wp2
  go_loop [6] (fun i => ∃ k : Nat, k ≤ s.size ∧ i = .int .i64 k ∧ (s.data.toList.take k).all isDig = true) (fun i => s.size - (intOf i).toNat)
  case atStart => exact ⟨0, Nat.zero_le _, rfl, by simp⟩
  case round =>
    obtain ⟨k, hk, rfl, hall⟩ := hrel
    have HA := Lib.hid hall
    clear hall
    by_cases hlt : k < s.size
    · by_cases h1 : (s[k].toNat : Int) < 48
      · go_wp2
        go_ret
        refine ⟨?_, rfl⟩
        rw [digs_no hlt (Bool.eq_false_iff.2 fun e => by have := (isDig_iff _).1 e; omega)]
        rfl
      · by_cases h2 : (57 : Int) < s[k].toNat
        · go_wp2
          go_ret
          refine ⟨?_, rfl⟩
          rw [digs_no hlt (Bool.eq_false_iff.2 fun e => by have := (isDig_iff _).1 e; omega)]
          rfl
        · go_wp2
          go_round
          case rel => exact ⟨k + 1, by omega, by go_num, take_all hlt HA.out ((isDig_iff _).2 ⟨by omega, by omega⟩)⟩
          case measure => simp [intOf]; omega
    · go_wp2
      go_ret
      refine ⟨?_, rfl⟩
      have hk' : k = s.data.toList.length := by have : s.data.toList.length = s.size := by simp
                                                omega
      have ha := HA.out
      rw [hk', List.take_length] at ha
      unfold digs
      rw [ha, Bool.and_true, ← ByteArray.toList_eq]
      rfl

theorem orNoughtAt (s : ByteArray) (w : World) :
    Calls Tryz.prog 78 #[.string s] w fun e w' => e = .returned (.string ⟨(orN s.data.toList).toArray⟩) ∧ w' = w := by
  by_cases h : s.toList.isEmpty = true
  · go_enter Tryz.func78, Tryz.ntmps78
    go_wp2
    go_ret
    refine ⟨?_, rfl⟩
    unfold orN
    rw [← ByteArray.toList_eq, if_pos h]
    rfl
  · have h' : s.toList.isEmpty = false := by simpa using h
    go_enter Tryz.func78, Tryz.ntmps78
    go_wp2
    go_ret
    refine ⟨?_, rfl⟩
    unfold orN
    rw [← ByteArray.toList_eq, if_neg h, ByteArray.toList_eq]
    rfl

end Go.Proofs.YtffbcccbhofbpaaGreatDoor

/- The small questions about one value: its kind. -/
namespace Go.Proofs.YtffbcccbhofbpaaGreatDoor
open Go.RowKit

theorem below1 (w : World) (o : Obj) : Below w.heap.size w (w.alloc o) := (Below.refl _ _).alloc (Nat.le_refl _) _
theorem below2 (w : World) (o p : Obj) : Below w.heap.size w ((w.alloc o).alloc p) := (below1 w o).alloc (by simp) _

theorem truthOfAt (b : Bool) (w : World) : Calls Tryz.prog 48 #[.bool b] w fun e w' => e = .returned (.int .i64 (if b then 1 else 0)) ∧ w = w' := by
  cases b
  all_goals
    go_enter Tryz.func48, Tryz.ntmps48
    go_wp2_with fail
    go_ret
    exact ⟨rfl, rfl⟩

end Go.Proofs.YtffbcccbhofbpaaGreatDoor

/- The small type that stands for a value's kind. -/
namespace Go.Proofs.YtffbcccbhofbpaaGreatDoor
open Go.RowKit

/-- The number of the small type that stands for a kind. -/
def kindT (k : Int) : Nat :=
  if k = 0 then 113 else if k = 1 then 91 else if k = 2 then 93 else if k = 3 then 97 else if k = 4 then 98 else if k = 5 then 103 else
  if k = 6 then 94 else if k = 7 then 95 else if k = 8 then 99 else if k = 9 then 100 else if k = 10 then 102 else 115

theorem kindOfAt (k : Int) (b : Bool) (n : Int) (t x : ByteArray) (L : Value) (T : Nat) (hT : T = kindT k) (w : World) :
    Calls Tryz.prog 47 #[.agg #[.int .i64 k, .bool b, .int .i64 n, .string t, .string x, L]] w fun e w' => e = .returned (.iface T (.agg #[])) ∧ Below w.heap.size w w' := by
  have h0 : (w.alloc (.cells #[.int .i64 k, .bool b, .int .i64 n, .string t, .string x, L] 31)).cell? ⟨w.heap.size, 0, none⟩ = some (.int .i64 k) := cell_of (heap_new _ _ rfl) _ rfl
  subst hT
  by_cases h : 0 ≤ k ∧ k ≤ 10
  · obtain ⟨h1, h2⟩ := h
    obtain ⟨j, rfl⟩ : ∃ j : Nat, k = j := ⟨k.toNat, by omega⟩
    have hj : j ≤ 10 := by omega
    clear h1 h2
    match j, hj, h0 with
    | 0, _, h0 | 1, _, h0 | 2, _, h0 | 3, _, h0 | 4, _, h0 | 5, _, h0 | 6, _, h0 | 7, _, h0 | 8, _, h0 | 9, _, h0 | 10, _, h0 =>
      go_enter Tryz.func47, Tryz.ntmps47
      go_wp2_with fail
      go_ret
      exact ⟨rfl, below1 _ _⟩
  · have e0 : k ≠ 0 := by omega
    have e1 : k ≠ 1 := by omega
    have e2 : k ≠ 2 := by omega
    have e3 : k ≠ 3 := by omega
    have e4 : k ≠ 4 := by omega
    have e5 : k ≠ 5 := by omega
    have e6 : k ≠ 6 := by omega
    have e7 : k ≠ 7 := by omega
    have e8 : k ≠ 8 := by omega
    have e9 : k ≠ 9 := by omega
    have e10 : k ≠ 10 := by omega
    have hv : kindT k = 115 := by simp [kindT, e0, e1, e2, e3, e4, e5, e6, e7, e8, e9, e10]
    rw [hv]
    clear h hv
    go_enter Tryz.func47, Tryz.ntmps47
    go_wp2_with fail
    go_ret
    exact ⟨rfl, below1 _ _⟩
end Go.Proofs.YtffbcccbhofbpaaGreatDoor

/- Whether a text may be an address, a name; whether a value is bare. -/
namespace Go.Proofs.YtffbcccbhofbpaaGreatDoor
open Go.RowKit

def letterB (c : UInt8) : Bool := (decide (97 ≤ c.toNat) && decide (c.toNat ≤ 122)) || (decide (65 ≤ c.toNat) && decide (c.toNat ≤ 90)) || decide (c.toNat = 95)
def digitB (c : UInt8) : Bool := decide (48 ≤ c.toNat) && decide (c.toNat ≤ 57)
def addrC (c : UInt8) : Bool := decide (32 < c.toNat) && decide (c.toNat ≠ 60) && decide (c.toNat ≠ 62)
def addrP (s : ByteArray) : Bool := decide (0 < s.size ∧ s.size ≤ 1048576 ∧ ∀ j (h : j < s.size), addrC s[j] = true)
def nameC (j : Nat) (c : UInt8) : Bool := letterB c || (decide (j ≠ 0) && digitB c)
def nameP (s : ByteArray) : Bool := decide (0 < s.size ∧ s.size ≤ 64 ∧ ∀ j (h : j < s.size), nameC j s[j] = true)
theorem empty_iff (s : ByteArray) : s.toList.isEmpty = true ↔ s.size = 0 := by
  rw [ByteArray.toList_eq, List.isEmpty_iff_length_eq_zero]
  simp
theorem pastAll {s : ByteArray} {p : Nat → UInt8 → Bool} {k : Nat} (h : k < s.size) (ha : ∀ j (h : j < s.size), j < k → p j s[j] = true) (hk : p k s[k] = true) : ∀ j (h : j < s.size), j < k + 1 → p j s[j] = true := by
  intro j hj hlt
  by_cases e : j = k
  · subst e
    exact hk
  · exact ha j hj (by omega)


theorem letterB_of {c : UInt8} {b : Bool} (h : b = true ↔ ((97 : Int) ≤ c.toNat ∧ (c.toNat : Int) ≤ 122) ∨ ((65 : Int) ≤ c.toNat ∧ (c.toNat : Int) ≤ 90) ∨ (c.toNat : Int) = 95) : b = letterB c := by
  rw [Bool.eq_iff_iff, h]
  simp only [letterB, Bool.or_eq_true, Bool.and_eq_true, decide_eq_true_eq]
  omega
theorem letterAt (c : UInt8) (r : Bool) (hr : r = letterB c) (w : World) : Calls Tryz.prog 66 #[.int .u8 c.toNat] w fun e w' => e = .returned (.bool r) ∧ w = w' := by
  by_cases a1 : (97 : Int) ≤ c.toNat
  · by_cases a2 : (c.toNat : Int) ≤ 122
    · obtain rfl : r = true := by rw [hr]; exact (letterB_of (by simp [a1, a2])).symm
      clear hr
      go_enter Tryz.func66, Tryz.ntmps66
      go_wp2_with fail
      go_ret
      exact ⟨rfl, rfl⟩
    · obtain rfl : r = false := by rw [hr]; exact (letterB_of (by simp; omega)).symm
      clear hr
      have a3 : (65 : Int) ≤ c.toNat := by omega
      have a4 : ¬ (c.toNat : Int) ≤ 90 := by omega
      have a5 : ¬ (c.toNat : Int) = 95 := by omega
      go_enter Tryz.func66, Tryz.ntmps66
      go_wp2_with fail
      go_ret
      exact ⟨by simp [a5] <;> rfl, rfl⟩
  · by_cases a3 : (65 : Int) ≤ c.toNat
    · by_cases a4 : (c.toNat : Int) ≤ 90
      · obtain rfl : r = true := by rw [hr]; exact (letterB_of (by simp [a3, a4])).symm
        clear hr
        go_enter Tryz.func66, Tryz.ntmps66
        go_wp2_with fail
        go_ret
        exact ⟨rfl, rfl⟩
      · have hv : r = ((c.toNat : Int) == 95) := by rw [hr]; exact (letterB_of (by simp; omega)).symm
        clear hr
        go_enter Tryz.func66, Tryz.ntmps66
        go_wp2_with fail
        go_ret
        exact ⟨rfl, rfl⟩
    · have a5 : ¬ (c.toNat : Int) = 95 := by omega
      obtain rfl : r = false := by rw [hr]; exact (letterB_of (by simp; omega)).symm
      clear hr
      go_enter Tryz.func66, Tryz.ntmps66
      go_wp2_with fail
      go_ret
      exact ⟨by simp [a5] <;> rfl, rfl⟩
theorem digitAt46 (c : UInt8) (r : Bool) (hr : r = digitB c) (w : World) : Calls Tryz.prog 67 #[.int .u8 c.toNat] w fun e w' => e = .returned (.bool r) ∧ w = w' := by
  by_cases a1 : (48 : Int) ≤ c.toNat
  · have hv : r = decide ((c.toNat : Int) ≤ 57) := by rw [hr, Bool.eq_iff_iff]; simp [digitB]; omega
    clear hr
    go_enter Tryz.func67, Tryz.ntmps67
    go_wp2_with fail
    go_ret
    exact ⟨by rw [hv]; rfl, rfl⟩
  · have hv : r = false := by rw [hr, Bool.eq_false_iff]; simp [digitB]; omega
    clear hr
    subst hv
    go_enter Tryz.func67, Tryz.ntmps67
    go_wp2_with fail
    go_ret
    exact ⟨rfl, rfl⟩


theorem addr_no {s : ByteArray} {k : Nat} (h : k < s.size) (hk : addrC s[k] = false) : addrP s = false := by
  unfold addrP
  rw [decide_eq_false_iff_not]
  rintro ⟨_, _, ha⟩
  rw [ha k h] at hk
  exact absurd hk (by simp)
set_option maxHeartbeats 800000 in
theorem isAddressAt (s : ByteArray) (w : World) (hs : s.size ≤ maxLen) :
    Calls Tryz.prog 57 #[.string s] w fun e w' => e = .returned (.bool (addrP s)) ∧ w = w' := by
  unfold maxLen at hs
  by_cases h0 : s.toList.isEmpty = true
  · have hv : addrP s = false := by
      unfold addrP
      rw [decide_eq_false_iff_not]
      have := (empty_iff s).1 h0
      omega
    rw [hv]
    go_enter Tryz.func57, Tryz.ntmps57
    go_wp2_with fail
    go_ret
    exact ⟨rfl, rfl⟩
  · have h0' : s.toList.isEmpty = false := by simpa using h0
    have hpos : 0 < s.size := by have := mt (empty_iff s).2 h0; omega
    by_cases hbig : (1048576 : Int) < s.size
    · have hv : addrP s = false := by
        unfold addrP
        rw [decide_eq_false_iff_not]
        omega
      rw [hv]
      go_enter Tryz.func57, Tryz.ntmps57
      go_wp2_with fail
      go_ret
      exact ⟨rfl, rfl⟩
    · go_enter Tryz.func57, Tryz.ntmps57
      go_wp2_with fail
      go_loop [13] (fun i => ∃ k : Nat, k ≤ s.size ∧ i = .int .i64 k ∧ ∀ j (h : j < s.size), j < k → addrC s[j] = true) (fun i => s.size - (intOf i).toNat)
      case atStart => exact ⟨0, Nat.zero_le _, rfl, fun j _ h => absurd h (by omega)⟩
      case round =>
        obtain ⟨k, hk, rfl, hall⟩ := hrel
        have HA := Lib.hid hall
        clear hall
        by_cases hlt : k < s.size
        · by_cases h1 : (s[k].toNat : Int) ≤ 32
          · go_wp2_with fail
            go_ret
            exact ⟨by rw [addr_no hlt (by simp [addrC]; omega)]; rfl, rfl⟩
          · by_cases h2 : (s[k].toNat : Int) = 60
            · go_wp2_with fail
              go_ret
              exact ⟨by rw [addr_no hlt (by simp [addrC]; omega)]; rfl, rfl⟩
            · by_cases h3 : (s[k].toNat : Int) = 62
              · go_wp2_with fail
                go_ret
                exact ⟨by rw [addr_no hlt (by simp [addrC]; omega)]; rfl, rfl⟩
              · go_wp2_with fail
                go_round
                case rel => exact ⟨k + 1, by omega, by go_num, pastAll (p := fun _ => addrC) hlt HA.out (by simp [addrC]; omega)⟩
                case measure => simp [intOf]; omega
        · go_wp2_with fail
          go_ret
          have hv : addrP s = true := by
            unfold addrP
            rw [decide_eq_true_eq]
            exact ⟨hpos, by omega, fun j hj => HA.out j hj (by omega)⟩
          exact ⟨by rw [hv]; rfl, rfl⟩


theorem name_no {s : ByteArray} {k : Nat} (h : k < s.size) (hk : nameC k s[k] = false) : nameP s = false := by
  unfold nameP
  rw [decide_eq_false_iff_not]
  rintro ⟨_, _, ha⟩
  rw [ha k h] at hk
  exact absurd hk (by simp)
set_option maxHeartbeats 800000 in
theorem isNameAt (s : ByteArray) (w : World) (hs : s.size ≤ maxLen) :
    Calls Tryz.prog 58 #[.string s] w fun e w' => e = .returned (.bool (nameP s)) ∧ w = w' := by
  unfold maxLen at hs
  by_cases h0 : s.toList.isEmpty = true
  · have hv : nameP s = false := by
      unfold nameP
      rw [decide_eq_false_iff_not]
      have := (empty_iff s).1 h0
      omega
    rw [hv]
    go_enter Tryz.func58, Tryz.ntmps58
    go_wp2_with fail
    go_ret
    exact ⟨rfl, rfl⟩
  · have h0' : s.toList.isEmpty = false := by simpa using h0
    have hpos : 0 < s.size := by have := mt (empty_iff s).2 h0; omega
    by_cases hbig : (64 : Int) < s.size
    · have hv : nameP s = false := by
        unfold nameP
        rw [decide_eq_false_iff_not]
        omega
      rw [hv]
      go_enter Tryz.func58, Tryz.ntmps58
      go_wp2_with fail
      go_ret
      exact ⟨rfl, rfl⟩
    · go_enter Tryz.func58, Tryz.ntmps58
      go_wp2_with fail
      go_loop [13] (fun i => ∃ k : Nat, k ≤ s.size ∧ i = .int .i64 k ∧ ∀ j (h : j < s.size), j < k → nameC j s[j] = true) (fun i => s.size - (intOf i).toNat)
      case atStart => exact ⟨0, Nat.zero_le _, rfl, fun j _ h => absurd h (by omega)⟩
      case round =>
        obtain ⟨k, hk, rfl, hall⟩ := hrel
        have HA := Lib.hid hall
        clear hall
        by_cases hlt : k < s.size
        · by_cases h1 : letterB s[k] = true
          · have H1 := Lib.hid h1
            clear h1
            go_wp2_with (go_at_call 66; (with_reducible refine (letterAt s[k] true H1.out.symm _).mono ?_); rintro e w' ⟨rfl, rfl⟩)
            go_round
            case rel => exact ⟨k + 1, by omega, by go_num, pastAll (p := nameC) hlt HA.out (by simp [nameC, H1.out])⟩
            case measure => simp [intOf]; omega
          · have H1 : Hid (letterB s[k] = false) := Lib.hid (by simpa using h1)
            clear h1
            by_cases h2 : k = 0
            · subst h2
              go_wp2_with (go_at_call 66; (with_reducible refine (letterAt s[0] false H1.out.symm _).mono ?_); rintro e w' ⟨rfl, rfl⟩)
              go_ret
              exact ⟨by rw [name_no hlt (by simp [nameC, H1.out])]; rfl, rfl⟩
            · have h2i : ¬ (k : Int) = 0 := by omega
              by_cases h3 : digitB s[k] = true
              · have H3 := Lib.hid h3
                clear h3
                go_wp2_with (first
                  | (go_at_call 66; (with_reducible refine (letterAt s[k] false H1.out.symm _).mono ?_); rintro e w' ⟨rfl, rfl⟩)
                  | (go_at_call 67; (with_reducible refine (digitAt46 s[k] true H3.out.symm _).mono ?_); rintro e w' ⟨rfl, rfl⟩))
                go_round
                case rel => exact ⟨k + 1, by omega, by go_num, pastAll (p := nameC) hlt HA.out (by simp [nameC, H3.out, h2])⟩
                case measure => simp [intOf]; omega
              · have H3 : Hid (digitB s[k] = false) := Lib.hid (by simpa using h3)
                clear h3
                go_wp2_with (first
                  | (go_at_call 66; (with_reducible refine (letterAt s[k] false H1.out.symm _).mono ?_); rintro e w' ⟨rfl, rfl⟩)
                  | (go_at_call 67; (with_reducible refine (digitAt46 s[k] false H3.out.symm _).mono ?_); rintro e w' ⟨rfl, rfl⟩))
                go_ret
                exact ⟨by rw [name_no hlt (by simp [nameC, H1.out, H3.out])]; rfl, rfl⟩
        · go_wp2_with fail
          go_ret
          have hv : nameP s = true := by
            unfold nameP
            rw [decide_eq_true_eq]
            exact ⟨hpos, by omega, fun j hj => HA.out j hj (by omega)⟩
          exact ⟨by rw [hv]; rfl, rfl⟩
end Go.Proofs.YtffbcccbhofbpaaGreatDoor

/- Whether a value has nothing beside its kind. -/
namespace Go.Proofs.YtffbcccbhofbpaaGreatDoor
open Go.RowKit

def bareP (b : Bool) (n : Int) (t x : ByteArray) (len : Nat) : Bool := !b && decide (n = 0) && decide (t.size = 0) && decide (x.size = 0) && decide (len = 0)

theorem isBareAt (k : Int) (b : Bool) (n : Int) (t x : ByteArray) (p : Option Addr) (len cap : Nat) (w : World) :
    Calls Tryz.prog 60 #[.agg #[.int .i64 k, .bool b, .int .i64 n, .string t, .string x, .slice p len cap]] w fun e w' => e = .returned (.bool (bareP b n t x len)) ∧ Below w.heap.size w w' := by
  have h1 : (w.alloc (.cells #[.int .i64 k, .bool b, .int .i64 n, .string t, .string x, .slice p len cap] 31)).cell? ⟨w.heap.size, 1, none⟩ = some (.bool b) := cell_of (heap_new _ _ rfl) _ rfl
  have h2 : (w.alloc (.cells #[.int .i64 k, .bool b, .int .i64 n, .string t, .string x, .slice p len cap] 31)).cell? ⟨w.heap.size, 2, none⟩ = some (.int .i64 n) := cell_of (heap_new _ _ rfl) _ rfl
  have h3 : (w.alloc (.cells #[.int .i64 k, .bool b, .int .i64 n, .string t, .string x, .slice p len cap] 31)).cell? ⟨w.heap.size, 3, none⟩ = some (.string t) := cell_of (heap_new _ _ rfl) _ rfl
  have h4 : (w.alloc (.cells #[.int .i64 k, .bool b, .int .i64 n, .string t, .string x, .slice p len cap] 31)).cell? ⟨w.heap.size, 4, none⟩ = some (.string x) := cell_of (heap_new _ _ rfl) _ rfl
  have h5 : (w.alloc (.cells #[.int .i64 k, .bool b, .int .i64 n, .string t, .string x, .slice p len cap] 31)).cell? ⟨w.heap.size, 5, none⟩ = some (.slice p len cap) := cell_of (heap_new _ _ rfl) _ rfl
  cases b with
  | true =>
    go_enter Tryz.func60, Tryz.ntmps60
    go_wp2_with fail
    go_ret
    exact ⟨rfl, below1 _ _⟩
  | false =>
    by_cases e2 : n = 0
    · subst e2
      by_cases e3 : t.toList.isEmpty = true
      · have s3 := (empty_iff t).1 e3
        by_cases e4 : x.toList.isEmpty = true
        · have s4 := (empty_iff x).1 e4
          have hv : bareP false 0 t x len = ((len : Int) == 0) := by
            unfold bareP
            rw [s3, s4, Bool.eq_iff_iff]
            simp
          rw [hv]
          clear hv s3 s4
          go_enter Tryz.func60, Tryz.ntmps60
          go_wp2_with fail
          go_ret
          exact ⟨rfl, below1 _ _⟩
        · have s4 : ¬ x.size = 0 := mt (empty_iff x).2 e4
          have e4' : x.toList.isEmpty = false := by simpa using e4
          have hv : bareP false 0 t x len = false := by simp [bareP, s4]
          rw [hv]
          clear hv s3 s4 e4
          go_enter Tryz.func60, Tryz.ntmps60
          go_wp2_with fail
          go_ret
          exact ⟨rfl, below1 _ _⟩
      · have s3 : ¬ t.size = 0 := mt (empty_iff t).2 e3
        have e3' : t.toList.isEmpty = false := by simpa using e3
        have hv : bareP false 0 t x len = false := by simp [bareP, s3]
        rw [hv]
        clear hv s3 e3
        go_enter Tryz.func60, Tryz.ntmps60
        go_wp2_with fail
        go_ret
        exact ⟨rfl, below1 _ _⟩
    · have hv : bareP false n t x len = false := by simp [bareP, e2]
      rw [hv]
      clear hv
      go_enter Tryz.func60, Tryz.ntmps60
      go_wp2_with fail
      go_ret
      exact ⟨rfl, below1 _ _⟩
end Go.Proofs.YtffbcccbhofbpaaGreatDoor

/- Values in memory: a value's own block, and values in one another. -/
namespace Go.Proofs.YtffbcccbhofbpaaGreatDoor
open Go.RowKit

theorem info28 : (Tryz.prog.info? 31).map (·.size) = some 6 := by kernel_rfl

/-- A value's six cells in a block of its own. -/
def Six (w : World) (g : Nat) (k : Int) (b : Bool) (n : Int) (t x : ByteArray) (p : Option Addr) (len cap : Nat) : Prop :=
  w.heap[g]? = some (.cells #[.int .i64 k, .bool b, .int .i64 n, .string t, .string x, .slice p len cap] 31)

section
variable {w w' : World} {g e : Nat} {k : Int} {b : Bool} {n : Int} {t x : ByteArray} {p : Option Addr} {len cap : Nat}
theorem Six.below (h : Six w g k b n t x p len cap) (q : Below w.heap.size w w') : Six w' g k b n t x p len cap := (q.block g (lt_of_heap h)).trans h
theorem Six.only (h : Six w g k b n t x p len cap) (q : Only e w w') (d : g ≠ e) : Six w' g k b n t x p len cap := (q.block g (lt_of_heap h) d).trans h
theorem Six.alloc (h : Six w g k b n t x p len cap) (o : Obj) : Six (w.alloc o) g k b n t x p len cap := heap_old _ h
theorem Six.drewN (h : Six w g k b n t x p len cap) (m : Nat) : Six (w.drewN m) g k b n t x p len cap := h
theorem Six.lt (h : Six w g k b n t x p len cap) : g < w.heap.size := lt_of_heap h
theorem six_new (w : World) (e : w.heap.size = g) : Six (w.alloc (.cells #[.int .i64 k, .bool b, .int .i64 n, .string t, .string x, .slice p len cap] 31)) g k b n t x p len cap := heap_new _ _ e
theorem Six.c0 (h : Six w g k b n t x p len cap) : w.cell? ⟨g, 0, none⟩ = some (.int .i64 k) := cell_of h _ rfl
theorem Six.c1 (h : Six w g k b n t x p len cap) : w.cell? ⟨g, 1, none⟩ = some (.bool b) := cell_of h _ rfl
theorem Six.c2 (h : Six w g k b n t x p len cap) : w.cell? ⟨g, 2, none⟩ = some (.int .i64 n) := cell_of h _ rfl
theorem Six.c3 (h : Six w g k b n t x p len cap) : w.cell? ⟨g, 3, none⟩ = some (.string t) := cell_of h _ rfl
theorem Six.c4 (h : Six w g k b n t x p len cap) : w.cell? ⟨g, 4, none⟩ = some (.string x) := cell_of h _ rfl
theorem Six.c5 (h : Six w g k b n t x p len cap) : w.cell? ⟨g, 5, none⟩ = some (.slice p len cap) := cell_of h _ rfl
end

section
variable {w : World} {g : Nat} {k : Int} {b : Bool} {n : Int} {t x : ByteArray} {p : Option Addr} {len cap : Nat}
theorem Six.free (h : Six w g k b n t x p len cap) (i : Nat) : w.frozen? ⟨g, i, none⟩ = false := free_of h _
theorem Six.set1 (h : Six w g k b n t x p len cap) (v : Bool) : Six (w.setCell ⟨g, 1, none⟩ (.bool v)) g k v n t x p len cap := heap_set h 1 (.bool v)
theorem Six.set2 (h : Six w g k b n t x p len cap) (v : Int) : Six (w.setCell ⟨g, 2, none⟩ (.int .i64 v)) g k b v t x p len cap := heap_set h 2 (.int .i64 v)
theorem Six.set3 (h : Six w g k b n t x p len cap) (v : ByteArray) : Six (w.setCell ⟨g, 3, none⟩ (.string v)) g k b n v x p len cap := heap_set h 3 (.string v)
theorem Six.set4 (h : Six w g k b n t x p len cap) (v : ByteArray) : Six (w.setCell ⟨g, 4, none⟩ (.string v)) g k b n t v p len cap := heap_set h 4 (.string v)
theorem Six.set5 (h : Six w g k b n t x p len cap) (q : Option Addr) (l c : Nat) : Six (w.setCell ⟨g, 5, none⟩ (.slice q l c)) g k b n t x q l c := heap_set h 5 (.slice q l c)
theorem below_set {B e o : Nat} {y z : World} (h : Below B y z) (s : Option Nat) (v : Value) (hb : B ≤ e) (hs : B ≤ z.heap.size) : Below B y (z.setCell ⟨e, o, s⟩ v) :=
  below_only h ((Only.refl e z).setCell o s v) hb hs
end

theorem wpList_load6 {ops : Array Oper} {rest : List Oper} {o : Oper} {a : Act} {w : World} {Q : Exit → Act → World → Prop} {k : Int} {b : Bool} {n : Int} {t x : ByteArray} {p : Option Addr} {len cap : Nat} (y : Operand) (g : Nat) (hg : Six w g k b n t x p len cap)
    (hgd : o.guard = none) (ho : o.op = .load 31 y) (hx : a.eval y = .pointer (some ⟨g, 0, none⟩))
    (h : wpList Tryz.prog ops Q rest (a.put o.dst (.agg #[.int .i64 k, .bool b, .int .i64 n, .string t, .string x, .slice p len cap])) w) : wpList Tryz.prog ops Q (o :: rest) a w :=
  wpList_load_row hgd 31 y ho g hx 31 _ (0, 0) _ hg Tryz.underlying31 rfl info28 h
theorem wpList_store6 {ops : Array Oper} {rest : List Oper} {o : Oper} {a : Act} {w : World} {Q : Exit → Act → World → Prop} {k : Int} {b : Bool} {n : Int} {t x : ByteArray} {p : Option Addr} {len cap : Nat}
    {k' : Int} {b' : Bool} {n' : Int} {t' x' : ByteArray} {p' : Option Addr} {len' cap' : Nat} (y z : Operand) (g : Nat) (hg : Six w g k b n t x p len cap)
    (hgd : o.guard = none) (ho : o.op = .store 31 y z) (hx : a.eval y = .pointer (some ⟨g, 0, none⟩)) (hy : a.eval z = .agg #[.int .i64 k', .bool b', .int .i64 n', .string t', .string x', .slice p' len' cap'])
    (h : ∀ w', Only g w w' → Six w' g k' b' n' t' x' p' len' cap' → wpList Tryz.prog ops Q rest (a.put o.dst undef) w') : wpList Tryz.prog ops Q (o :: rest) a w :=
  wpList_plain hgd fun _ hK => by
    unfold Oper.wp execOp
    simp only [ho, hx, hy, Instr.storeAt, Instr.sureAddr, Sem.run_bind, Sem.run_pure, Result.andThen_ok, run_storeVar_row (P := Tryz.prog) w g 31 31 _ #[.int .i64 k', .bool b', .int .i64 n', .string t', .string x', .slice p' len' cap'] hg info28 rfl (by simp [Value.oneCell'])]
    exact hK _ _ (h _ (Only.setRow w _) (heap_setRow hg))
/-- The same behind a guard that is met. -/
theorem wpList_load6g {ops : Array Oper} {rest : List Oper} {o : Oper} {a : Act} {w : World} {Q : Exit → Act → World → Prop} {k : Int} {b : Bool} {n : Int} {t x : ByteArray} {p : Option Addr} {len cap : Nat} (y : Operand) (g : Nat) (hg : Six w g k b n t x p len cap)
    (hw : Region.wanted o (yielded ops a.tmps) = true) (ho : o.op = .load 31 y) (hx : a.eval y = .pointer (some ⟨g, 0, none⟩))
    (h : wpList Tryz.prog ops Q rest (a.put o.dst (.agg #[.int .i64 k, .bool b, .int .i64 n, .string t, .string x, .slice p len cap])) w) : wpList Tryz.prog ops Q (o :: rest) a w := by
  unfold wpList
  rw [if_pos hw]
  refine .inl ?_
  unfold Oper.wp execOp
  simp only [ho, hx, Instr.loadAt, Instr.sureAddr, Sem.run_bind, Sem.run_pure, Result.andThen_ok, run_loadVar_row (P := Tryz.prog) w g 31 31 _ (0, 0) _ hg Tryz.underlying31 rfl info28]
  exact h
end Go.Proofs.YtffbcccbhofbpaaGreatDoor
