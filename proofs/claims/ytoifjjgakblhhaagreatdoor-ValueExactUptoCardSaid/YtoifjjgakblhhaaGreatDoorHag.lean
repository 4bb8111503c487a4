/- Texts of one kind, one behind the other: each says ahead of itself what it shows. -/
import Derived.Test.YtoifjjgakblhhaaGreatDoorHaa
import Derived.Deep.DeepCutAuto
import Derived.Laws.StructEq
import Derived.Deep.RegionWith
import Derived.Test.YtoifjjgakblhhaaGreatDoorHaf
import Derived.WalkMore
import Derived.Deep.LoopGhost
import Derived.OwnWalk
import Derived.Test.YtoifjjgakblhhaaGreatDoorHae
import Derived.Deep.RegionHeld3
/- compareAmount: which of two amounts is the greater. -/
namespace Go.Proofs.YtoifjjgakblhhaaGreatDoor
open Go.RowKit

set_option maxHeartbeats 400000 in
theorem cmpAmt (c d : Array Value) (n m : Bool) (xs ys : Nat → Nat) (hc : IsNum c n xs) (hd : IsNum d m ys) (w : World) :
    Calls Tryz.prog 152 #[.agg c, .agg d] w fun e w' => e = .returned (.int .i64 (cmpI (wval xs) (wval ys))) ∧ Below w.heap.size w w' := by
  go_enter Tryz.func152, Tryz.ntmps152
  go_wp2
  go_loopw [5] (fun i wr => ∃ k : Int, -1 ≤ k ∧ k ≤ 15 ∧ i = .int .i64 k ∧ (∀ j : Nat, k < j → j < 16 → xs j = ys j) ∧ wr.heap[w.heap.size]? = some (.cells c 136) ∧ wr.heap[w.heap.size+1]? = some (.cells d 136) ∧ Below w.heap.size w wr) (fun i _ => (intOf i + 1).toNat)
  case atStart =>
    refine ⟨15, by omega, by omega, rfl, fun j a b => by omega, ?_, ?_, ?_⟩
    · rw [Below.heap_alloc _ _ _ (by simp)]; exact heap_new _ _ rfl
    · exact heap_new _ _ (by simp)
    · exact ((Below.refl _ _).alloc (Nat.le_refl _) _).alloc (by simp) _
  case round =>
    obtain ⟨k, hk1, hk2, rfl, heq, hb1, hb2, hbel⟩ := hrel
    have HE := Lib.hid heq
    clear heq
    have B1 := Lib.hid hb1
    have B2 := Lib.hid hb2
    clear hb1 hb2
    by_cases hk : 0 ≤ k
    · obtain ⟨k, rfl⟩ := Int.eq_ofNat_of_zero_le hk
      have hx : wr.cell? ⟨w.heap.size, 1 + k, none⟩ = some (.int .u32 (xs k)) := cell_of B1.out _ (hc.word k (by omega))
      have hy : wr.cell? ⟨w.heap.size + 1, 1 + k, none⟩ = some (.int .u32 (ys k)) := cell_of B2.out _ (hd.word k (by omega))
      have hkk : (k : Int) < 16 := by omega
      rcases Nat.lt_trichotomy (xs k) (ys k) with h | h | h
      · go_wp2
        go_quiet (fail)
        go_wp2
        go_ret
        refine ⟨?_, below_drewN hbel _⟩
        rw [cmpI_lt (wval_lt_of xs ys hc.lt k (by omega) (fun j a b => HE.out j (by omega) b) h)]; rfl
      · have HH := Lib.hid h
        clear h
        have h1 : decide (xs k < ys k) = false := by have := HH.out; simp; omega
        have h2 : decide (ys k < xs k) = false := by have := HH.out; simp; omega
        go_wp2
        go_quiet (fail)
        go_wp2
        go_quiet (fail)
        go_wp2
        go_roundw
        case rel => exact ⟨_, by omega, by omega, rfl, fun j a b => (if e : j = k then by rw [e]; exact HH.out else HE.out j (by omega) b), B1.out, B2.out, below_drewN hbel _⟩
        case measure => simp [intOf]
      · go_wp2
        go_quiet (fail)
        go_wp2
        go_quiet (fail)
        go_wp2
        go_ret
        refine ⟨?_, below_drewN (below_drewN hbel _) _⟩
        rw [cmpI_gt (wval_lt_of ys xs hd.lt k (by omega) (fun j a b => (HE.out j (by omega) b).symm) h)]; rfl
    · go_wp2
      go_ret
      refine ⟨?_, hbel⟩
      rw [cmpI_eq (wval_eq_of xs ys fun j hj => HE.out j (by omega) hj)]; rfl
end Go.Proofs.YtoifjjgakblhhaaGreatDoor

/- addAmount, takeAmount, push: what they do to the number behind the pointer. -/
namespace Go.Proofs.YtoifjjgakblhhaaGreatDoor
open Go.RowKit

end Go.Proofs.YtoifjjgakblhhaaGreatDoor

/- isZero, opposite, compare. -/
namespace Go.Proofs.YtoifjjgakblhhaaGreatDoor
open Go.RowKit

/-- Compare of two signs and amounts, as the text has it. -/
def cmpS (n : Bool) (x : Nat) (m : Bool) (y : Nat) : Int :=
  if n && !m then -1 else if m && !n then 1 else if n then cmpI y x else cmpI x y

end Go.Proofs.YtoifjjgakblhhaaGreatDoor

/- Decimals as whole numbers scaled by 10 ^ 54, and back. No Go stands here. -/
namespace Go.Proofs.YtoifjjgakblhhaaGreatDoor

/-- A signed amount. -/
def sv (n : Bool) (x : Nat) : Int := if n then -(x : Int) else x
/-- What a decimal is as a number: its sign, its amount scaled by 10 ^ 54. -/
def dsign (l : List UInt8) : Bool := ((splitP l).getD (false, [], [])).1
def damt (l : List UInt8) : Nat := num54 ((splitP l).getD (false, [], [])).2.1 ((splitP l).getD (false, [], [])).2.2
def dval (l : List UInt8) : Int := sv (dsign l) (damt l)
/-- The text of a number scaled by 10 ^ 54, if it may be. -/
def txt (z : Int) : Option (List UInt8) := wrN (decide (z < 0)) z.natAbs

theorem wr_zero (n m : Bool) (a b : List UInt8) (ha : a.all isDig = true) (hb : b.all isDig = true) (h1 : valD a = 0) (h2 : valD b = 0) : wr n a b = wr m a b := by
  unfold wr
  simp only [(trimL_nil ha).2 h1, (trimR_nil hb).2 h2, List.append_nil, List.isEmpty_nil, Bool.not_true, Bool.and_false]

theorem wrN_sv (r : Bool) (x : Nat) : wrN r x = txt (sv r x) := by
  unfold txt sv
  cases r
  · simp only [Bool.false_eq_true, if_false]
    rw [Int.natAbs_natCast, decide_eq_false (by omega)]
  · simp only [if_true]
    rw [Int.natAbs_neg, Int.natAbs_natCast]
    by_cases h : x = 0
    · subst h
      exact wr_zero _ _ _ _ (digsOf_dig _ _ _) (digsOf_dig _ _ _) (by simp [digsOf_val]) (by simp [digsOf_val])
    · rw [decide_eq_true (by omega)]

theorem num54_facts (a b : List UInt8) (ha : a.all isDig = true) (hb : b.all isDig = true) (la : a.length ≤ 40) (lb : b.length ≤ 20) : num54 a b < 10 ^ 94 ∧ num54 a b % 10 ^ 34 = 0 := by
  have h1 := valD_lt a ha
  have h2 := valD_lt b hb
  have h3 : 10 ^ a.length ≤ 10 ^ 40 := Nat.pow_le_pow_right (by omega) la
  have h4 : valD b * 10 ^ (54 - b.length) < 10 ^ b.length * 10 ^ (54 - b.length) := Nat.mul_lt_mul_of_pos_right h2 (Nat.pow_pos (by omega))
  rw [← Nat.pow_add, show b.length + (54 - b.length) = 54 by omega] at h4
  unfold num54
  constructor
  · have h5 : (valD a + 1) * 10 ^ 54 ≤ 10 ^ 40 * 10 ^ 54 := Nat.mul_le_mul_right _ (by omega)
    rw [← Nat.pow_add, Nat.add_mul] at h5
    omega
  · have e1 : 10 ^ 54 = 10 ^ 20 * 10 ^ 34 := by rw [← Nat.pow_add]
    have e2 : 10 ^ (54 - b.length) = 10 ^ (20 - b.length) * 10 ^ 34 := by rw [← Nat.pow_add]; congr 1; omega
    rw [e1, e2, ← Nat.mul_assoc, ← Nat.mul_assoc, ← Nat.add_mul, Nat.mul_mod_left]

/-- What a decimal is. -/
theorem chk_dec (l : List UInt8) (h : chk l = true) : txt (dval l) = some l ∧ damt l < 10 ^ 94 ∧ damt l % 10 ^ 34 = 0 ∧ (dsign l = true → damt l ≠ 0) ∧
    ∃ a b, splitP l = some (dsign l, a, b) ∧ a.all isDig = true ∧ b.all isDig = true ∧ a.length ≤ 40 ∧ b.length ≤ 20 ∧ damt l = num54 a b := by
  obtain ⟨n, a, b, hsp, ha, hb, la, lb, hw, hz⟩ := chk_parts l h
  have e1 : dsign l = n := by unfold dsign; rw [hsp]; rfl
  have e2 : damt l = num54 a b := by unfold damt; rw [hsp]; rfl
  obtain ⟨f1, f2⟩ := num54_facts a b ha hb la lb
  have hlt := valD_lt a ha
  have h90 : 10 ^ a.length ≤ 10 ^ 90 := Nat.pow_le_pow_right (by omega) (by omega)
  refine ⟨?_, by rw [e2]; exact f1, by rw [e2]; exact f2, ?_, a, b, by rw [e1]; exact hsp, ha, hb, la, lb, e2⟩
  · unfold dval
    rw [← wrN_sv, e1, e2, ← hw, wr_wrN n a b ha hb (by omega) (by omega)]
    rfl
  · rw [e1, e2]
    intro hn h0
    apply hz hn
    unfold num54 at h0
    have p1 : 0 < 10 ^ (54 - b.length) := Nat.pow_pos (by omega)
    rcases Nat.add_eq_zero_iff.1 h0 with ⟨q1, q2⟩
    rw [Nat.mul_eq_zero] at q1 q2
    exact ⟨by omega, by omega⟩

end Go.Proofs.YtoifjjgakblhhaaGreatDoor

/- plus. -/
namespace Go.Proofs.YtoifjjgakblhhaaGreatDoor
open Go.RowKit

theorem AddTo.done {f g h : Nat → Nat} {c : Nat} (H : AddTo f g h c 16) (hs : wval f + wval g < BASE ^ 16) : wval h = wval f + wval g := by
  have s := H.sum
  have hc : c = 0 := by
    by_cases e : c = 0
    · exact e
    · have : 1 * BASE ^ 16 ≤ c * BASE ^ 16 := Nat.mul_le_mul_right _ (by omega)
      unfold wval at hs; omega
  subst hc
  unfold wval at *; omega

theorem TakeFrom.done {f g h : Nat → Nat} {c : Nat} (H : TakeFrom f g h c 16) (hs : wval g ≤ wval f) (hf : Words f) : wval h + wval g = wval f := by
  have s := H.sum
  have hl := vN_lt h H.words 16 (by omega)
  have hc : c = 0 := by
    by_cases e : c = 0
    · exact e
    · have : 1 * BASE ^ 16 ≤ c * BASE ^ 16 := Nat.mul_le_mul_right _ (by omega)
      unfold wval at hs; omega
  subst hc
  unfold wval; omega

theorem below3 (w : World) (a b c : Obj) : Below w.heap.size w (((w.alloc a).alloc b).alloc c) := (((Below.refl _ _).alloc (Nat.le_refl _) _).alloc (by simp) _).alloc (by simp; omega) _

end Go.Proofs.YtoifjjgakblhhaaGreatDoor

/- Long division, digit by digit. No Go stands here. -/
namespace Go.Proofs.YtoifjjgakblhhaaGreatDoor

/-- The digits qs have been found of the first t of 164 digits of N by m; R is left. -/
structure OverTo (N m t R : Nat) (qs : List UInt8) : Prop where
  len : qs.length = t
  dig : qs.all isDig = true
  eq : valD qs * m + R = N / 10 ^ (164 - t)
  lt : R < m

theorem OverTo.zero {N m : Nat} (hN : N < 10 ^ 164) (hm : 0 < m) : OverTo N m 0 0 [] :=
  ⟨rfl, rfl, by rw [Nat.sub_zero, Nat.div_eq_of_lt hN]; simp [valD], hm⟩

/-- A digit as a sign. -/
def digB (j : Nat) : UInt8 := UInt8.ofNat (48 + j)
theorem digB_toNat {j : Nat} (h : j ≤ 9) : (digB j).toNat = 48 + j := by
  unfold digB; rw [UInt8.toNat_ofNat']; omega
theorem digB_dig {j : Nat} (h : j ≤ 9) : isDig (digB j) = true := by
  rw [isDig_iff, digB_toNat h]; omega

theorem OverTo.step {N m t R R' j : Nat} {qs : List UInt8} (H : OverTo N m t R qs) (ht : t < 164) (hj : j ≤ 9) (he : R' + j * m = R * 10 + N / 10 ^ (163 - t) % 10) (hl : R' < m) :
    OverTo N m (t + 1) R' (qs ++ [digB j]) := by
  refine ⟨by simp [H.len], by rw [List.all_append, H.dig, Bool.true_and, List.all_cons, digB_dig hj]; rfl, ?_, hl⟩
  have e1 : 164 - t = 163 - t + 1 := by omega
  have e := H.eq
  rw [e1, Nat.pow_succ, ← Nat.div_div_eq_div_mul] at e
  have e2 : 164 - (t + 1) = 163 - t := by omega
  rw [e2, valD_append]
  have e3 : valD [digB j] = j := by simp [valD, digB_toNat hj]
  rw [e3]
  simp only [List.length_singleton, Nat.pow_one]
  have d := Nat.div_add_mod (N / 10 ^ (163 - t)) 10
  generalize N / 10 ^ (163 - t) = P at *
  rw [← e] at d
  have : (valD qs * 10 + j) * m = 10 * (valD qs * m) + j * m := by rw [Nat.add_mul, Nat.mul_right_comm, Nat.mul_comm]
  rw [this]
  omega

theorem OverTo.done {N m R : Nat} {qs : List UInt8} (H : OverTo N m 164 R qs) : qs = digsOf (N / m) 0 164 := by
  have e := H.eq
  rw [Nat.sub_self, Nat.pow_zero, Nat.div_one] at e
  have hq : N / m = valD qs := by
    rw [← e]
    have := H.lt
    rw [Nat.mul_comm, Nat.mul_add_div (by omega), Nat.div_eq_of_lt this, Nat.add_zero]
  have hl := valD_lt qs H.dig
  rw [H.len] at hl
  refine eq_of_val _ _ H.dig (digsOf_dig _ _ _) (by rw [H.len, digsOf_len]) ?_
  rw [digsOf_val, Nat.pow_zero, Nat.div_one, hq, Nat.mod_eq_of_lt hl]

theorem PushTo.done {f h : Nat → Nat} {d c : Nat} (H : PushTo f d h c 16) (hs : wval f * 10 + d < BASE ^ 16) : wval h = wval f * 10 + d := by
  have s := H.sum
  have hc : c = 0 := by
    by_cases e : c = 0
    · exact e
    · have : 1 * BASE ^ 16 ≤ c * BASE ^ 16 := Nat.mul_le_mul_right _ (by omega)
      unfold wval at hs; omega
  subst hc
  unfold wval at *; omega

end Go.Proofs.YtoifjjgakblhhaaGreatDoor

/- over: the quotient's digits. -/
namespace Go.Proofs.YtoifjjgakblhhaaGreatDoor
open Go.RowKit

theorem Only.grown {b : Nat} {w w' : World} (h : Only b w w') : w.grownBy w' (some b) :=
  ⟨h.os, h.tape, h.output, h.size, fun k hk e => h.block k hk (by rintro rfl; exact e rfl)⟩
theorem info5 : (Tryz.prog.info? 5).map (fun i => (i.zero, i.size, i.bytes)) = some (some (.int .u8 0), 1, 1) := by kernel_rfl

theorem Lies.grown {w w' : World} {g b : Nat} {c : Array Value} {n : Bool} {f : Nat → Nat} (h : Lies w g c n f) (k : w.grownBy w' (some b)) (e : g ≠ b) : Lies w' g c n f :=
  ⟨(k.block g (lt_of_heap h.1) (by simpa using e)).trans h.1, h.2⟩

/-- The bytes of a list, as values. -/
def vals (l : List UInt8) : List Value := l.map fun b => .int .u8 (b.toNat : Int)
end Go.Proofs.YtoifjjgakblhhaaGreatDoor

/- What a value is encoded as: its bytes; how many they are at most. -/
namespace Go.Proofs.YtoifjjgakblhhaaGreatDoor
open Go.RowKit

/-- A text's bytes. -/
def txtB (t : ByteArray) : List UInt8 := t.data.toList
theorem txtB_length (t : ByteArray) : (txtB t).length = t.size := Array.length_toList
mutual
/-- How much there is of a value. -/
def wOne : Val → Nat
  | .mk _ _ _ t x l => 1 + t.size + x.size + wAll l
def wAll : List Val → Nat
  | [] => 0
  | v :: r => wOne v + wAll r
end
theorem wAll_mem : {l : List Val} → {v : Val} → v ∈ l → wOne v ≤ wAll l
  | [], _, h => absurd h (by simp)
  | u :: r, v, h => by
    unfold wAll
    rcases List.mem_cons.1 h with h | h
    · rw [h]; omega
    · have := wAll_mem h; omega
theorem wAll_len : (l : List Val) → l.length ≤ wAll l
  | [] => by simp
  | .mk k b n t x q :: r => by
    unfold wAll wOne
    have := wAll_len r
    simp only [List.length_cons]
    omega
theorem wAll_take : (l : List Val) → (j : Nat) → (h : j < l.length) → wAll (l.take j) + wOne (l[j]'h) ≤ wAll l
  | [], _, h => absurd h (by simp)
  | v :: r, 0, _ => by
    show wAll (v :: r.take 0 |>.take 0) + wOne v ≤ _
    simp [wAll]
  | v :: r, j + 1, h => by
    have := wAll_take r j (by simpa using h)
    show wAll (v :: r.take j) + wOne (r[j]'(by simpa using h)) ≤ wAll (v :: r)
    unfold wAll
    omega
theorem vals_append (a b : List UInt8) : vals (a ++ b) = vals a ++ vals b := by simp [vals]
theorem strCells_vals (t : ByteArray) : Lib.strCells t = vals (txtB t) := rfl
/-- A slice of bytes: what it reads as. -/
def Bts (w : World) (A : Value) (l : List UInt8) : Prop := ∃ p cap, A = .slice p l.length cap ∧ (l = [] ∨ ∃ g off, p = some ⟨g, off, none⟩ ∧ ∀ j c, l[j]? = some c → w.cell? ⟨g, off + j, none⟩ = some (.int .u8 c.toNat))
theorem Bts.below {w w' : World} {A : Value} {l : List UInt8} (h : Bts w A l) (b : Below w.heap.size w w') : Bts w' A l := by
  obtain ⟨p, cap, e, h⟩ := h
  refine ⟨p, cap, e, ?_⟩
  rcases h with h | ⟨g, off, e2, h⟩
  · exact .inl h
  · exact .inr ⟨g, off, e2, fun j c hj => (b.cell (p := ⟨g, off + j, none⟩) (World.block_lt_of_cell? w _ (h j c hj))).trans (h j c hj)⟩
/-- A row of bytes of one's own. -/
structure OwnB (w0 : World) (A : Value) (l : List UInt8) (w : World) : Prop where
  own : w.ownsRow w0.heap.size 5 1 A l.length (vals l)
  bel : Below w0.heap.size w0 w
theorem OwnB.lo {w0 w : World} {A : Value} {l : List UInt8} (h : OwnB w0 A l w) : w0.heap.size ≤ w.heap.size := h.bel.size
theorem OwnB.alloc {w0 w : World} {A : Value} {l : List UInt8} (h : OwnB w0 A l w) (o : Obj) : OwnB w0 A l (w.alloc o) := ⟨h.own.alloc o, h.bel.alloc h.lo o⟩
theorem OwnB.start (w : World) : OwnB w (.slice none 0 0) [] w := ⟨World.ownsRow_nil _ _ _ _, Below.refl _ _⟩
theorem OwnB.say {w0 w w1 : World} {A A' : Value} {l l' : List UInt8} {n : Nat} {xs : List Value} (h : OwnB w0 A l w) (hown : w1.ownsRow w0.heap.size 5 1 A' n xs) (hg : w.grownBy w1 A.ownBlock) (hn : n = l'.length) (hx : xs = vals l') : OwnB w0 A' l' w1 := by
  subst hn hx
  exact ⟨hown, h.bel.grown hg h.lo (fun k hk => (h.own.lt k hk).1)⟩
theorem OwnB.after {w0 w w1 : World} {A : Value} {l : List UInt8} (h : OwnB w0 A l w) (hb : Below w.heap.size w w1) : OwnB w0 A l w1 := by
  refine ⟨⟨h.own.1, ?_⟩, below_any h.bel hb h.lo⟩
  rcases h.own.2 with h0 | ⟨g, cap, cur, e, h1, h2, h3⟩
  · exact .inl h0
  · exact .inr ⟨g, cap, cur, e, h1, (hb.block g (lt_of_heap h2)).trans h2, h3⟩
theorem OwnB.bts {w0 w : World} {A : Value} {l : List UInt8} (h : OwnB w0 A l w) : Bts w A l := by
  rcases h.own.2 with ⟨e, h0⟩ | ⟨g, cap, cur, e, _⟩
  · have := List.length_eq_zero_iff.1 h0
    subst this
    exact ⟨none, 0, e, .inl rfl⟩
  · refine ⟨_, cap, e, .inr ⟨g, 0, rfl, fun j c hj => ?_⟩⟩
    have hj' := (List.getElem?_eq_some_iff.1 hj).1
    have hown := h.own
    rw [e] at hown
    rw [Nat.zero_add, hown.cellAt j (by omega)]
    unfold vals
    rw [List.getElem?_map, hj]
    rfl
theorem OwnB.ne {w0 w : World} {A : Value} {l : List UInt8} (h : OwnB w0 A l w) : some w.heap.size ≠ A.ownBlock := fun e => by have := (h.own.lt _ e.symm).2; omega
theorem Six.grown {W w1 : World} {g : Nat} {k : Int} {b : Bool} {n : Int} {t x : ByteArray} {p : Option Addr} {len cap : Nat} {r : Option Nat} (S : Six W g k b n t x p len cap) (hg : W.grownBy w1 r) (hne : some g ≠ r) : Six w1 g k b n t x p len cap :=
  (hg.block g S.lt hne).trans S
/-- All boxes of values stay as they were. -/
def Bx (w w' : World) : Prop := ∀ (g : Nat) (c : Array Value), w.heap[g]? = some (Obj.cells c 28) → w'.heap[g]? = some (Obj.cells c 28)
theorem Bx.refl (w : World) : Bx w w := fun _ _ h => h
theorem Bx.trans {w w1 w2 : World} (h : Bx w w1) (k : Bx w1 w2) : Bx w w2 := fun g c e => k g c (h g c e)
theorem Bx.below {w w' : World} (h : Below w.heap.size w w') : Bx w w' := fun g _ e => (h.block g (lt_of_heap e)).trans e
theorem OwnB.bx {w0 w w1 : World} {A : Value} {l : List UInt8} (h : OwnB w0 A l w) (hg : w.grownBy w1 A.ownBlock) : Bx w w1 := fun g c e => by
  refine (hg.block g (lt_of_heap e) (fun e2 => ?_)).trans e
  rcases h.own.2 with ⟨e3, _⟩ | ⟨g2, cap, cur, e3, _, h2, _⟩
  · rw [e3] at e2; cases e2
  · rw [e3] at e2
    obtain rfl : g = g2 := Option.some.inj e2
    rw [e] at h2
    injection h2 with h3
    injection h3 with _ h4
    exact absurd h4 (by decide)
theorem Six.bx {w w' : World} {g : Nat} {k : Int} {b : Bool} {n : Int} {t x : ByteArray} {p : Option Addr} {len cap : Nat} (S : Six w g k b n t x p len cap) (h : Bx w w') : Six w' g k b n t x p len cap := h _ _ S
theorem OwnB.drew {w0 w : World} {A : Value} {l : List UInt8} (h : OwnB w0 A l w) : OwnB w0 A l w.drew := ⟨h.own, h.bel.drew⟩
end Go.Proofs.YtoifjjgakblhhaaGreatDoor

/- A list of values that came in: where it lies, what it is, and how much of it there is. -/
namespace Go.Proofs.YtoifjjgakblhhaaGreatDoor
open Go.RowKit Go.ChangeShapes
variable {H : Type} {enc : TypeId × Value → H}

theorem value_of_trodW {W : World} {n : Nat} {cs : List Value} {y : DataW H × List MemPlace} (h : DataW.trod enc Tryz.prog W 0 (fun _ => true) true n 28 cs = some y) :
    ∃ n' k b m t x L yl, n = n' + 1 ∧ cs = [.int .i64 k, .bool b, .int .i64 m, .string t, .string x, L] ∧ DataW.trod enc Tryz.prog W 0 (fun _ => true) true n' 22 [L] = some yl ∧
      1 + t.size + x.size + Rows.uptoBulk yl.1 ≤ Rows.uptoBulk y.1 ∧ (Lit.int .i64 m).wf = true := by
  obtain ⟨xs, n', rfl, rfl, hl, hlen, hf⟩ := DataW.trod_struct Tryz.underlying28 h
  obtain ⟨c0, c1, c2, c3, c4, c5, rfl⟩ := list6 (hl.trans (by kernel_rfl : Tryz.prog.cellsOf 28 = 6))
  obtain ⟨y0, y1, y2, y3, y4, y5, rfl⟩ := list6 (hlen.trans rfl)
  have e1 : Tryz.prog.cellsOf 3 = 1 := by kernel_rfl
  have e2 : Tryz.prog.cellsOf 4 = 1 := by kernel_rfl
  have e3 : Tryz.prog.cellsOf 2 = 1 := by kernel_rfl
  have e4 : Tryz.prog.cellsOf 9 = 1 := by kernel_rfl
  have e5 : Tryz.prog.cellsOf 22 = 1 := by kernel_rfl
  have h0 : DataW.trod enc Tryz.prog W 0 (fun _ => true) true n' 3 (([c0, c1, c2, c3, c4, c5].drop 0).take (Tryz.prog.cellsOf 3)) = [y0, y1, y2, y3, y4, y5][0]? := hf 0 _ rfl
  have h1 : DataW.trod enc Tryz.prog W 0 (fun _ => true) true n' 4 (([c0, c1, c2, c3, c4, c5].drop 1).take (Tryz.prog.cellsOf 4)) = [y0, y1, y2, y3, y4, y5][1]? := hf 1 _ rfl
  have h2 : DataW.trod enc Tryz.prog W 0 (fun _ => true) true n' 2 (([c0, c1, c2, c3, c4, c5].drop 2).take (Tryz.prog.cellsOf 2)) = [y0, y1, y2, y3, y4, y5][2]? := hf 2 _ rfl
  have h3 : DataW.trod enc Tryz.prog W 0 (fun _ => true) true n' 9 (([c0, c1, c2, c3, c4, c5].drop 3).take (Tryz.prog.cellsOf 9)) = [y0, y1, y2, y3, y4, y5][3]? := hf 3 _ rfl
  have h4 : DataW.trod enc Tryz.prog W 0 (fun _ => true) true n' 9 (([c0, c1, c2, c3, c4, c5].drop 4).take (Tryz.prog.cellsOf 9)) = [y0, y1, y2, y3, y4, y5][4]? := hf 4 _ rfl
  have h5 : DataW.trod enc Tryz.prog W 0 (fun _ => true) true n' 22 (([c0, c1, c2, c3, c4, c5].drop 5).take (Tryz.prog.cellsOf 22)) = [y0, y1, y2, y3, y4, y5][5]? := hf 5 _ rfl
  rw [e1] at h0
  rw [e2] at h1
  rw [e3] at h2
  rw [e4] at h3 h4
  rw [e5] at h5
  replace h0 : DataW.trod enc Tryz.prog W 0 (fun _ => true) true n' 3 [c0] = some y0 := h0
  replace h1 : DataW.trod enc Tryz.prog W 0 (fun _ => true) true n' 4 [c1] = some y1 := h1
  replace h2 : DataW.trod enc Tryz.prog W 0 (fun _ => true) true n' 2 [c2] = some y2 := h2
  replace h3 : DataW.trod enc Tryz.prog W 0 (fun _ => true) true n' 9 [c3] = some y3 := h3
  replace h4 : DataW.trod enc Tryz.prog W 0 (fun _ => true) true n' 9 [c4] = some y4 := h4
  replace h5 : DataW.trod enc Tryz.prog W 0 (fun _ => true) true n' 22 [c5] = some y5 := h5
  obtain ⟨k, a0, _, _⟩ := DataW.trod_int Tryz.underlying3 h0
  obtain ⟨b, a1, _⟩ := DataW.trod_bool Tryz.underlying4 h1
  obtain ⟨m, a2, _, wm⟩ := DataW.trod_int Tryz.underlying2 h2
  obtain ⟨t, a3, z3, _⟩ := DataW.trod_string Tryz.underlying9 h3
  obtain ⟨x, a4, z4, _⟩ := DataW.trod_string Tryz.underlying9 h4
  simp only [List.cons.injEq, and_true] at a0 a1 a2 a3 a4
  subst a0 a1 a2 a3 a4
  refine ⟨n', k, b, m, t, x, c5, y5, rfl, rfl, h5, ?_, wm⟩
  have a3 : Rows.uptoBulk y3.1 = t.size + 1 := by
    rw [z3]
    have e' : t.data.toList.length = t.size := Array.length_toList
    show t.data.toList.length + 1 = _
    rw [e']
  have a4 : Rows.uptoBulk y4.1 = x.size + 1 := by
    rw [z4]
    have e' : x.data.toList.length = x.size := Array.length_toList
    show x.data.toList.length + 1 = _
    rw [e']
  have a : Rows.uptoBulkAll ([y0, y1, y2, y3, y4, y5].map (·.1)) = Rows.uptoBulk y0.1 + (Rows.uptoBulk y1.1 + (Rows.uptoBulk y2.1 + (Rows.uptoBulk y3.1 + (Rows.uptoBulk y4.1 + (Rows.uptoBulk y5.1 + 0))))) := rfl
  show _ ≤ Rows.uptoBulkAll _ + 1
  rw [a, a3, a4]
  omega

set_option maxRecDepth 20000 in
theorem vals_of_trodW {W : World} (B : Nat) (hBB : B ≤ 2097152) : ∀ (N n : Nat), n ≤ N → ∀ (L : Value) (y : DataW H × List MemPlace), DataW.trod enc Tryz.prog W 0 (fun _ => true) true n 22 [L] = some y → Rows.uptoBulk y.1 ≤ B → ∃ l, Held W L l ∧ wAll l ≤ Rows.uptoBulk y.1 := by
  intro N
  induction N with
  | zero =>
    intro n hn L y h _
    obtain rfl : n = 0 := by omega
    simp [DataW.trod] at h
  | succ N IH =>
    intro n0 hn0 L y h hB
    rcases DataW.trod_slice Tryz.underlying22 h with ⟨e, _⟩ | ⟨a, len, cap, elems, rest, n1, hn, e, rfl, hb, hl, hm, hlen, hel, _, _⟩
    · obtain rfl : L = .slice none 0 0 := by simpa using e
      exact ⟨[], by unfold Held; exact ⟨none, 0, rfl⟩, by simp [wAll]⟩
    · obtain rfl : L = .slice (some a) len cap := by simpa using e
      rw [show Tryz.prog.cellsOf 28 = 6 by kernel_rfl] at hel
      have hE1 : Rows.uptoBulkAll (elems.map (·.1)) + Rows.uptoBulkAll (rest.map (·.1)) + 1 ≤ B := hB
      have hE : Rows.uptoBulkAll (elems.map (·.1)) ≤ B := by omega
      have hln : len ≤ B := by
        have := bulk_len (elems.map (·.1))
        simp only [List.length_map] at this
        omega
      have each : ∀ i, i < len → ∃ k b m t x l p, (∀ j v, [Value.int .i64 k, .bool b, .int .i64 m, .string t, .string x, p][j]? = some v → W.cell? ((a.add (i * 6)).add j) = some v) ∧ Fine m t x (List.length (α := Val) l) ∧ Held W p l ∧ ∀ h : i < elems.length, 1 + t.size + x.size + wAll l ≤ Rows.uptoBulk elems[i].1 := by
        intro i hi
        have h1 := hel i hi
        have hi' : i < elems.length := by omega
        rw [List.getElem?_eq_getElem hi', Option.bind_eq_some_iff] at h1
        obtain ⟨cs, hcs, hy⟩ := h1
        obtain ⟨c1, c2⟩ := mapM_cells hcs
        obtain ⟨n', k, b, m, t, x, p, yl, hn', rfl, hp, hpl, wm⟩ := value_of_trodW hy
        have hbe : Rows.uptoBulk elems[i].1 ≤ B := Nat.le_trans (bulk_mem (List.mem_map_of_mem (List.getElem_mem hi'))) hE
        obtain ⟨l, hheld, hll⟩ := IH n' (by omega) p yl hp (by omega)
        obtain ⟨w1, w2⟩ := i64_wf wm
        have hll2 := wAll_len l
        refine ⟨k, b, m, t, x, l, p, fun j v hv => ?_, ⟨by omega, by omega, by omega, w1, w2⟩, hheld, fun _ => by omega⟩
        have hj : j < 6 := by
          have := (List.getElem?_eq_some_iff.1 hv).1
          simpa using this
        rw [c2 j hj, hv]
      by_cases h0 : len = 0
      · subst h0
        exact ⟨[], by unfold Held; exact ⟨some a, cap, rfl⟩, by simp [wAll]⟩
      · have hsp : a.spot = none := by
          obtain ⟨k, b, m, t, x, l, p, hc, _, _, _⟩ := each 0 (by omega)
          have h0 := hc 0 _ rfl
          cases kk : a.spot with
          | none => rfl
          | some mm =>
            rw [show (a.add (0 * 6)).add 0 = a by simp [Addr.add]] at h0
            unfold World.cell? at h0
            rw [kk] at h0
            split at h0 <;> simp at h0
        obtain ⟨g, off, spot⟩ := a
        simp only at hsp
        subst hsp
        have build : ∀ m, m ≤ len → ∃ l : List Val, l.length = m ∧ Holds W g (off + (len - m) * 6) l ∧ wAll l ≤ Rows.uptoBulkAll ((elems.map (·.1)).drop (len - m)) := by
          intro m
          induction m with
          | zero => exact fun _ => ⟨[], rfl, by unfold Holds; trivial, by simp [wAll]⟩
          | succ m ih =>
            intro hm1
            obtain ⟨l, hll, hh, hwl⟩ := ih (by omega)
            obtain ⟨k, b, mm, t, x, q, p, hc, hf, hp, hwe⟩ := each (len - (m + 1)) (by omega)
            have ea : ∀ j, ((⟨g, off, none⟩ : Addr).add ((len - (m + 1)) * 6)).add j = ⟨g, off + (len - (m + 1)) * 6 + j, none⟩ := fun j => by rw [add_none, add_none]
            refine ⟨.mk k b mm t x q :: l, by simp [hll], ?_⟩
            have hi2 : len - (m + 1) < elems.length := by omega
            have hd : (elems.map (·.1)).drop (len - (m + 1)) = elems[len - (m + 1)].1 :: (elems.map (·.1)).drop (len - m) := by
              rw [List.drop_eq_getElem_cons (by simpa using hi2), List.getElem_map, show len - (m + 1) + 1 = len - m by omega]
            refine ⟨?_, ?_⟩
            rotate_left
            · rw [hd]
              have := hwe hi2
              unfold wAll wOne Rows.uptoBulkAll
              omega
            unfold Holds
            refine ⟨?_, ?_⟩
            · unfold HoldsOne
              have hcj := fun j v hv => (congrArg W.cell? (ea j)).symm.trans (hc j v hv)
              exact ⟨hcj 0 _ rfl, hcj 1 _ rfl, hcj 2 _ rfl, hcj 3 _ rfl, hcj 4 _ rfl, hf, p, hcj 5 _ rfl, hp⟩
            · rw [show off + (len - (m + 1)) * 6 + 6 = off + (len - m) * 6 by omega]
              exact hh
        obtain ⟨l, hll, hh, hwl⟩ := build len (Nat.le_refl _)
        rw [Nat.sub_self, Nat.zero_mul, Nat.add_zero] at hh
        rw [Nat.sub_self, List.drop_zero] at hwl
        refine ⟨l, ?_, by show wAll l ≤ Rows.uptoBulkAll (elems.map (·.1)) + Rows.uptoBulkAll (rest.map (·.1)) + 1; omega⟩
        cases l with
        | nil => simp at hll; omega
        | cons v r =>
          unfold Holds at hh
          unfold Held
          exact ⟨g, off, cap, by rw [← hll]; rfl, hh.1, hh.2⟩
end Go.Proofs.YtoifjjgakblhhaaGreatDoor

/- Whether two values are the same: the program's answer. -/
namespace Go.Proofs.YtoifjjgakblhhaaGreatDoor
open Go.RowKit

mutual
/-- Whether two values are the same. -/
def sameP : Val → Val → Bool
  | .mk k b n t x l, .mk k2 b2 n2 t2 x2 l2 => (k == k2) && ((b == b2) && ((n == n2) && ((t.toList == t2.toList) && ((x.toList == x2.toList) && ((l.length == l2.length) && eachSame l l2)))))
def eachSame : List Val → List Val → Bool
  | v :: r, v2 :: r2 => sameP v v2 && eachSame r r2
  | _, _ => true
end
theorem eachSame_no : (l l2 : List Val) → ∀ (i : Nat) (h : i < l.length) (h2 : i < l2.length), sameP l[i] l2[i] = false → eachSame l l2 = false
  | [], _, i, h, _, _ => absurd h (by simp)
  | _ :: _, [], i, _, h2, _ => absurd h2 (by simp)
  | v :: r, v2 :: r2, i, h, h2, e => by
    unfold eachSame
    match i, h, h2 with
    | 0, _, _ => rw [show sameP v v2 = false from e]; rfl
    | i + 1, h, h2 => rw [eachSame_no r r2 i (by simpa using h) (by simpa using h2) e, Bool.and_false]
theorem eachSame_yes : (l l2 : List Val) → (∀ (i : Nat) (h : i < l.length) (h2 : i < l2.length), sameP l[i] l2[i] = true) → eachSame l l2 = true
  | [], _, _ => by unfold eachSame; rfl
  | _ :: _, [], _ => by unfold eachSame; rfl
  | v :: r, v2 :: r2, h => by
    unfold eachSame
    rw [show sameP v v2 = true from h 0 (by simp) (by simp), Bool.true_and]
    exact eachSame_yes r r2 fun i h1 h2 => h (i + 1) (by simpa using h1) (by simpa using h2)

/-- A value's cells, and where its list lies. -/
structure Opens (w : World) (g off : Nat) (v : Val) (k : Int) (b : Bool) (n : Int) (t x : ByteArray) (q : List Val) (p : Option Addr) (cap : Nat) : Prop where
  e : v = .mk k b n t x q
  c0 : w.cell? ⟨g, off, none⟩ = some (.int .i64 k)
  c1 : w.cell? ⟨g, off + 1, none⟩ = some (.bool b)
  c2 : w.cell? ⟨g, off + 2, none⟩ = some (.int .i64 n)
  c3 : w.cell? ⟨g, off + 3, none⟩ = some (.string t)
  c4 : w.cell? ⟨g, off + 4, none⟩ = some (.string x)
  c5 : w.cell? ⟨g, off + 5, none⟩ = some (.slice p q.length cap)
  hf : Fine n t x q.length
  hl : Held w (.slice p q.length cap) q
theorem HoldsOne.opens {w : World} {g off : Nat} : {v : Val} → HoldsOne w g off v → ∃ k b n t x q p cap, Opens w g off v k b n t x q p cap
  | .mk k b n t x q, h => by
    unfold HoldsOne at h
    obtain ⟨h0, h1, h2, h3, h4, hf, L, h5, hl⟩ := h
    obtain ⟨p, cap, rfl⟩ := held_slice hl
    exact ⟨k, b, n, t, x, q, p, cap, rfl, h0, h1, h2, h3, h4, h5, hf, hl⟩
theorem Held.form {w : World} {p : Option Addr} {cap n : Nat} {v : Val} {r : List Val} (h : Held w (.slice p n cap) (v :: r)) : ∃ g off, p = some ⟨g, off, none⟩ ∧ Holds w g off (v :: r) := by
  unfold Held at h
  obtain ⟨g, off, cap', e, hv, hr⟩ := h
  cases e
  refine ⟨g, off, rfl, ?_⟩
  unfold Holds
  exact ⟨hv, hr⟩

/-- Same's contract at a value. -/
def SameAt (v : Val) : Prop := ∀ (W : World) (k : Int) (b : Bool) (n : Int) (t x : ByteArray) (q : List Val) (p : Option Addr) (cap : Nat) (v2 : Val) (k2 : Int) (b2 : Bool) (n2 : Int) (t2 x2 : ByteArray) (q2 : List Val) (p2 : Option Addr) (cap2 : Nat),
  v = .mk k b n t x q → v2 = .mk k2 b2 n2 t2 x2 q2 → q.length ≤ 2097152 → Held W (.slice p q.length cap) q → Held W (.slice p2 q2.length cap2) q2 →
  Calls Tryz.prog 17 #[.agg #[.int .i64 k, .bool b, .int .i64 n, .string t, .string x, .slice p q.length cap], .agg #[.int .i64 k2, .bool b2, .int .i64 n2, .string t2, .string x2, .slice p2 q2.length cap2]] W
    fun e w' => e = .returned (.bool (sameP v v2)) ∧ Below W.heap.size W w'

theorem eqFuncLen (p p2 : Option Addr) (n n2 cap cap2 : Nat) (w : World) (h : ¬ n = n2) :
    Calls Tryz.prog 43 #[.slice p n cap, .slice p2 n2 cap2, .func (.func 17) #[] #[]] w fun e w' => e = .returned (.bool false) ∧ Below w.heap.size w w' := by
  have h1 : ((n : Int) != n2) = true := by simp; omega
  clear h
  go_enter Tryz.func43, Tryz.ntmps43
  go_wp2_with fail
  go_ret
  exact ⟨rfl, Below.refl _ _⟩
theorem eqFuncNone (p p2 : Option Addr) (cap cap2 : Nat) (w : World) :
    Calls Tryz.prog 43 #[.slice p 0 cap, .slice p2 0 cap2, .func (.func 17) #[] #[]] w fun e w' => e = .returned (.bool true) ∧ Below w.heap.size w w' := by
  go_enter Tryz.func43, Tryz.ntmps43
  go_wp2_with fail
  go_loopw [17] (fun i wr => i = .int .i64 0 ∧ wr = w) (fun _ _ => 0)
  case atStart => exact ⟨rfl, rfl⟩
  case round =>
    obtain ⟨rfl, rfl⟩ := hrel
    go_wp2_with fail
    go_ret
    exact ⟨rfl, Below.refl _ _⟩

set_option maxHeartbeats 1600000 in
theorem eqFuncSome (l l2 : List Val) (g off cap g2 off2 cap2 : Nat) (w : World) (hl : Holds w g off l) (hl2 : Holds w g2 off2 l2) (hlen : l2.length = l.length) (hn : l.length ≤ 2097152) (each : ∀ v ∈ l, SameAt v) :
    Calls Tryz.prog 43 #[.slice (some ⟨g, off, none⟩) l.length cap, .slice (some ⟨g2, off2, none⟩) l.length cap2, .func (.func 17) #[] #[]] w fun e w' => e = .returned (.bool (eachSame l l2)) ∧ Below w.heap.size w w' := by
  have HH := Lib.hid hl
  have HH2 := Lib.hid hl2
  have HE := Lib.hid each
  have HL := Lib.hid hlen
  clear hl hl2 each hlen
  go_enter Tryz.func43, Tryz.ntmps43
  go_wp2_with fail
  go_loopw [17] (fun i wr => ∃ j : Nat, j ≤ l.length ∧ i = .int .i64 j ∧ Below w.heap.size w wr ∧ ∀ (i : Nat) (h : i < l.length) (h2 : i < l2.length), i < j → sameP l[i] l2[i] = true) (fun i _ => l.length - (intOf i).toNat)
  case atStart => exact ⟨0, Nat.zero_le _, rfl, Below.refl _ _, fun _ _ _ h => absurd h (by omega)⟩
  case round =>
    obtain ⟨j, hj, rfl, hb, hall⟩ := hrel
    have HA := Lib.hid hall
    clear hall
    by_cases hlt : j < l.length
    · have hlt2 : j < l2.length := by have := HL.out; omega
      obtain ⟨k, b, n, t, x, q, p, cp, o1⟩ := ((Holds.at_ l off HH.out j hlt).below _ hb).opens
      obtain ⟨k2, b2, n2, t2, x2, q2, p2, cp2, o2⟩ := ((Holds.at_ l2 off2 HH2.out j hlt2).below _ hb).opens
      obtain ⟨c1, hc1⟩ : ∃ c1, c1 = Obj.cells #[.int .i64 k, .bool b, .int .i64 n, .string t, .string x, .slice p q.length cp] 28 := ⟨_, rfl⟩
      obtain ⟨c2, hc2⟩ : ∃ c2, c2 = Obj.cells #[.int .i64 k2, .bool b2, .int .i64 n2, .string t2, .string x2, .slice p2 q2.length cp2] 28 := ⟨_, rfl⟩
      have bb := below2 wr c1 c2
      have hc := HE.out l[j] (List.getElem_mem hlt) ((wr.alloc c1).alloc c2) k b n t x q p cp l2[j] k2 b2 n2 t2 x2 q2 p2 cp2 o1.e o2.e o1.hf.hn (Held.below q o1.hl bb) (Held.below q2 o2.hl bb)
      obtain ⟨r, hr⟩ : ∃ r, r = sameP l[j] l2[j] := ⟨_, rfl⟩
      rw [← hr] at hc
      have l0 : Six ((wr.alloc c1).alloc c2) wr.heap.size k b n t x p q.length cp := by rw [hc1]; exact (six_new _ rfl).alloc _
      have l1 : Six ((wr.alloc c1).alloc c2) (wr.heap.size + 1) k2 b2 n2 t2 x2 p2 q2.length cp2 := by rw [hc2]; exact six_new _ (by simp)
      have hs : w.heap.size ≤ wr.heap.size := hb.size
      have b0 : Below w.heap.size w ((wr.alloc c1).alloc c2) := (hb.alloc hs _).alloc (by simp; omega) _
      have z0 : w.heap.size ≤ ((wr.alloc c1).alloc c2).heap.size := b0.size
      have oo2 : Opens (wr.alloc c1) g2 (off2 + j * 6) l2[j] k2 b2 n2 t2 x2 q2 p2 cp2 := by
        have h1 := below1 wr c1
        have hg := World.block_lt_of_cell? wr _ o2.c0
        exact ⟨o2.e, (h1.cell (p := ⟨g2, off2 + j * 6, none⟩) hg).trans o2.c0, (h1.cell (p := ⟨g2, off2 + j * 6 + 1, none⟩) hg).trans o2.c1, (h1.cell (p := ⟨g2, off2 + j * 6 + 2, none⟩) hg).trans o2.c2, (h1.cell (p := ⟨g2, off2 + j * 6 + 3, none⟩) hg).trans o2.c3,
          (h1.cell (p := ⟨g2, off2 + j * 6 + 4, none⟩) hg).trans o2.c4, (h1.cell (p := ⟨g2, off2 + j * 6 + 5, none⟩) hg).trans o2.c5, o2.hf, Held.below q2 o2.hl h1⟩
      have O1 := Lib.hid o1
      have O2 := Lib.hid oo2
      have HR := Lib.hid hr
      clear o1 o2 oo2 bb hr
      subst hc1 hc2
      cases r with
      | true =>
        go_wp2_with (first
          | ((with_reducible refine wpList_loadMid6 (.tmp 20) g (off + j * 6) k b n t x (.slice p q.length cp) O1.out.c0 O1.out.c1 O1.out.c2 O1.out.c3 O1.out.c4 O1.out.c5 ?_ ?_ ?_ ?_); rfl; rfl; rfl)
          | ((with_reducible refine wpList_loadMid6 (.tmp 24) g2 (off2 + j * 6) k2 b2 n2 t2 x2 (.slice p2 q2.length cp2) O2.out.c0 O2.out.c1 O2.out.c2 O2.out.c3 O2.out.c4 O2.out.c5 ?_ ?_ ?_ ?_); rfl; rfl; rfl)
          | ((with_reducible refine wpList_load6 (.tmp 8) wr.heap.size l0 ?_ ?_ ?_ ?_); rfl; rfl; rfl)
          | ((with_reducible refine wpList_load6 (.tmp 9) (wr.heap.size + 1) l1 ?_ ?_ ?_ ?_); rfl; rfl; rfl)
          | (go_at_call 17; (with_reducible refine hc.mono ?_); rintro e w3 ⟨rfl, hb3⟩; have b3 := below_any b0 hb3 z0))
        go_roundw
        case rel =>
          refine ⟨j + 1, by omega, by go_num, b3, fun i hi hi2 hlt' => ?_⟩
          by_cases e : i = j
          · subst e; exact HR.out.symm
          · exact HA.out i hi hi2 (by omega)
        case measure => simp [intOf]; omega
      | false =>
        go_wp2_with (first
          | ((with_reducible refine wpList_loadMid6 (.tmp 20) g (off + j * 6) k b n t x (.slice p q.length cp) O1.out.c0 O1.out.c1 O1.out.c2 O1.out.c3 O1.out.c4 O1.out.c5 ?_ ?_ ?_ ?_); rfl; rfl; rfl)
          | ((with_reducible refine wpList_loadMid6 (.tmp 24) g2 (off2 + j * 6) k2 b2 n2 t2 x2 (.slice p2 q2.length cp2) O2.out.c0 O2.out.c1 O2.out.c2 O2.out.c3 O2.out.c4 O2.out.c5 ?_ ?_ ?_ ?_); rfl; rfl; rfl)
          | ((with_reducible refine wpList_load6 (.tmp 8) wr.heap.size l0 ?_ ?_ ?_ ?_); rfl; rfl; rfl)
          | ((with_reducible refine wpList_load6 (.tmp 9) (wr.heap.size + 1) l1 ?_ ?_ ?_ ?_); rfl; rfl; rfl)
          | (go_at_call 17; (with_reducible refine hc.mono ?_); rintro e w3 ⟨rfl, hb3⟩; have b3 := below_any b0 hb3 z0))
        go_ret
        exact ⟨by rw [eachSame_no l l2 j hlt hlt2 HR.out.symm]; rfl, b3⟩
    · go_wp2_with fail
      go_ret
      exact ⟨by rw [eachSame_yes l l2 fun i h h2 => HA.out i h h2 (by omega)]; rfl, hb⟩

theorem eqFuncAt (l l2 : List Val) (p p2 : Option Addr) (cap cap2 : Nat) (w : World) (hl : Held w (.slice p l.length cap) l) (hl2 : Held w (.slice p2 l2.length cap2) l2) (hn : l.length ≤ 2097152) (each : ∀ v ∈ l, SameAt v) :
    Calls Tryz.prog 43 #[.slice p l.length cap, .slice p2 l2.length cap2, .func (.func 17) #[] #[]] w fun e w' => e = .returned (.bool ((l.length == l2.length) && eachSame l l2)) ∧ Below w.heap.size w w' := by
  by_cases h : l.length = l2.length
  · rw [show (l.length == l2.length) = true by simpa using h, Bool.true_and, ← h]
    cases l with
    | nil =>
      unfold eachSame
      exact eqFuncNone _ _ _ _ _
    | cons v r =>
      cases l2 with
      | nil => simp at h
      | cons v2 r2 =>
        obtain ⟨g, off, rfl, hh⟩ := hl.form
        obtain ⟨g2, off2, rfl, hh2⟩ := hl2.form
        exact eqFuncSome (v :: r) (v2 :: r2) g off cap g2 off2 cap2 w hh hh2 h.symm hn each
  · rw [show (l.length == l2.length) = false by simpa using h, Bool.false_and]
    exact eqFuncLen p p2 _ _ cap cap2 w h
end Go.Proofs.YtoifjjgakblhhaaGreatDoor

/- Same, for values in one another. -/
namespace Go.Proofs.YtoifjjgakblhhaaGreatDoor
open Go.RowKit

set_option maxHeartbeats 1600000 in
theorem same_step (v : Val) (k : Int) (b : Bool) (n : Int) (t x : ByteArray) (q : List Val) (ev : v = .mk k b n t x q) (each : ∀ u ∈ q, SameAt u) : SameAt v := by
  subst ev
  intro W k1 b1 n1 t1 x1 q1 p cap v2 k2 b2 n2 t2 x2 q2 p2 cap2 e1 e2 hn hl hl2
  cases e1
  subst e2
  unfold sameP
  obtain ⟨c1, hc1⟩ : ∃ c1, c1 = Obj.cells #[.int .i64 k, .bool b, .int .i64 n, .string t, .string x, .slice p q.length cap] 28 := ⟨_, rfl⟩
  obtain ⟨c2, hc2⟩ : ∃ c2, c2 = Obj.cells #[.int .i64 k2, .bool b2, .int .i64 n2, .string t2, .string x2, .slice p2 q2.length cap2] 28 := ⟨_, rfl⟩
  have b0 := below2 W c1 c2
  have hc := eqFuncAt q q2 p p2 cap cap2 ((W.alloc c1).alloc c2) (Held.below q hl b0) (Held.below q2 hl2 b0) hn each
  have l0 : Six ((W.alloc c1).alloc c2) W.heap.size k b n t x p q.length cap := by rw [hc1]; exact (six_new _ rfl).alloc _
  have l1 : Six ((W.alloc c1).alloc c2) (W.heap.size + 1) k2 b2 n2 t2 x2 p2 q2.length cap2 := by rw [hc2]; exact six_new _ (by simp)
  have z0 := b0.size
  have f0 := l0.c0
  have f1 := l0.c1
  have f2 := l0.c2
  have f3 := l0.c3
  have f4 := l0.c4
  have f5 := l0.c5
  have g0 := l1.c0
  have g1 := l1.c1
  have g2 := l1.c2
  have g3 := l1.c3
  have g4 := l1.c4
  have g5 := l1.c5
  clear l0 l1 hl hl2 each hn
  subst hc1 hc2
  cases a0 : (k == k2) with
  | false =>
    rw [Bool.false_and]
    go_enter Tryz.func17, Tryz.ntmps17
    go_wp2_with fail
    go_ret
    exact ⟨rfl, b0⟩
  | true =>
    rw [Bool.true_and]
    cases a1 : (b == b2) with
    | false =>
      rw [Bool.false_and]
      go_enter Tryz.func17, Tryz.ntmps17
      go_wp2_with fail
      go_ret
      exact ⟨rfl, b0⟩
    | true =>
      rw [Bool.true_and]
      cases a2 : (n == n2) with
      | false =>
        rw [Bool.false_and]
        go_enter Tryz.func17, Tryz.ntmps17
        go_wp2_with fail
        go_ret
        exact ⟨rfl, b0⟩
      | true =>
        rw [Bool.true_and]
        cases a3 : (t.toList == t2.toList) with
        | false =>
          rw [Bool.false_and]
          go_enter Tryz.func17, Tryz.ntmps17
          go_wp2_with fail
          go_ret
          exact ⟨rfl, b0⟩
        | true =>
          rw [Bool.true_and]
          cases a4 : (x.toList == x2.toList) with
          | false =>
            rw [Bool.false_and]
            go_enter Tryz.func17, Tryz.ntmps17
            go_wp2_with fail
            go_ret
            exact ⟨rfl, b0⟩
          | true =>
            rw [Bool.true_and]
            generalize (q.length == q2.length && eachSame q q2) = r at hc ⊢
            go_enter Tryz.func17, Tryz.ntmps17
            go_wp2_with (go_at_call 43; (with_reducible refine hc.mono ?_); rintro e w3 ⟨rfl, hb3⟩; replace b0 := below_any b0 hb3 z0)
            go_ret
            exact ⟨rfl, b0⟩

mutual
theorem sameAll : (v : Val) → SameAt v
  | .mk k b n t x q => same_step _ k b n t x q rfl (sameEach q)
theorem sameEach : (q : List Val) → ∀ u ∈ q, SameAt u
  | [], _, h => absurd h (by simp)
  | v :: r, u, h => by
    rcases List.mem_cons.1 h with h | h
    · rw [h]; exact sameAll v
    · exact sameEach r u h
end
end Go.Proofs.YtoifjjgakblhhaaGreatDoor

/- minus. -/
namespace Go.Proofs.YtoifjjgakblhhaaGreatDoor
open Go.RowKit

theorem yieldsIf_loadN {ops : Array Oper} {S : World → Prop} {op : Oper} {a : Act} (hw : Region.wanted op (yielded ops a.tmps) = true) (x : Operand) (ho : op.op = .load 136 x)
    (g : Nat) (hx : a.eval x = .pointer (some ⟨g, 0, none⟩)) (c : Array Value) (n : Bool) (f : Nat → Nat) (hS : ∀ w, S w → Lies w g c n f) : YieldsIf Tryz.prog ops S op (.agg c) a :=
  .inl ⟨hw, fun w hw' => by
    unfold execOp
    simp only [ho, hx, Instr.loadAt, Instr.sureAddr, Sem.run_bind, Sem.run_pure, Result.andThen_ok, run_loadVar_row (P := Tryz.prog) w g 136 136 c (0, 0) _ (hS w hw').1 Tryz.underlying136 rfl (by rw [(hS w hw').2.size]; exact info59)]⟩
theorem storeN {w : World} {g : Nat} {c c' : Array Value} {n n' : Bool} {f f' : Nat → Nat} (h : Lies w g c n f) (k : IsNum c' n' f') : (Instr.storeAt 136 (.pointer (some ⟨g, 0, none⟩)) (.agg c')).run Tryz.prog w = .ok () (w.setRow g c') := by
  simp only [Instr.storeAt, Instr.sureAddr, Sem.run_bind, Sem.run_pure, Result.andThen_ok]
  exact run_storeVar_row (P := Tryz.prog) w g 136 136 c c' h.1 (by rw [k.size]; exact info59) (by rw [h.2.size, k.size]) k.one

theorem wp_storeN {op : Oper} {a : Act} {w : World} {K : Act → World → Prop} {Q : Exit → Act → World → Prop} (x y : Operand) (ho : op.op = .store 136 x y) (g : Nat) {c c' : Array Value} {n n' : Bool} {f f' : Nat → Nat}
    (hx : a.eval x = .pointer (some ⟨g, 0, none⟩)) (hy : a.eval y = .agg c') (hl : Lies w g c n f) (hn : IsNum c' n' f') (h : ∀ w', Only g w w' → Lies w' g c' n' f' → K (a.put op.dst undef) w') : op.wp Tryz.prog a w K Q := by
  unfold Oper.wp execOp
  simp only [ho, hx, hy, storeN hl hn, Sem.run_bind, Sem.run_pure, Result.andThen_ok]
  exact h _ (Only.setRow w c') ⟨heap_setRow hl.1, hn⟩

end Go.Proofs.YtoifjjgakblhhaaGreatDoor
