/- Texts of one kind, one behind the other: each says ahead of itself what it shows. -/
import Derived.Test.YtanbgdhmfjgihaaGreatDoorLag
import Derived.Test.YtanbgdhmfjgihaaGreatDoorLal
import Derived.Test.YtanbgdhmfjgihaaGreatDoorLab
import Derived.Test.YtanbgdhmfjgihaaGreatDoorLah
import Derived.BigGuardPart
import Derived.Deep.DeepCutAuto
import Derived.WalkKit
import Derived.OwnWalk
import Derived.Deep.QuietTactic
import Derived.BigQuiet
import Derived.Laws.AppendOwnNone
import Derived.StillTailTactics
import Derived.Deep.RegionLaw
import Derived.Deep.AppendLies
import Derived.IntWalk
import Derived.Deep.CutBlock
import Derived.Test.YtanbgdhmfjgihaaGreatDoorLai
import Derived.Deep.LoopGhost
import Derived.Test.YtanbgdhmfjgihaaGreatDoorLak
import Derived.Deep.RegionHeld3
import Derived.Deep.RegionWith
/- What may stand where in a triple: isSubject, isPredicate, isObject; how two values stand in the store's order. -/
namespace Go.Proofs.YtanbgdhmfjgihaaGreatDoor
open Go.RowKit

/-- May a value of this kind be a subject, a predicate, an object? -/
def subjP (k : Int) : Bool := k == 8 || k == 9
def predP (k : Int) : Bool := k == 8
def objP (k : Int) : Bool := k == 8 || k == 9 || k == 10 || k == 4 || k == 1 || k == 2 || k == 3

theorem predAt (k : Int) (b : Bool) (n : Int) (t x : ByteArray) (p : Option Addr) (len cap : Nat) (w : World) :
    Calls Tryz.prog 46 #[.agg #[.int .i64 k, .bool b, .int .i64 n, .string t, .string x, .slice p len cap]] w fun e w' => e = .returned (.bool (predP k)) ∧ Low w.heap.size w w' := by
  have h0 := (six_new (k := k) (b := b) (n := n) (t := t) (x := x) (p := p) (len := len) (cap := cap) w rfl).c0
  go_enter Tryz.func46, Tryz.ntmps46
  go_wp2_with fail
  go_ret
  exact ⟨rfl, low1 _ _⟩
theorem subjAt (k : Int) (b : Bool) (n : Int) (t x : ByteArray) (p : Option Addr) (len cap : Nat) (w : World) :
    Calls Tryz.prog 45 #[.agg #[.int .i64 k, .bool b, .int .i64 n, .string t, .string x, .slice p len cap]] w fun e w' => e = .returned (.bool (subjP k)) ∧ Low w.heap.size w w' := by
  have h0 := (six_new (k := k) (b := b) (n := n) (t := t) (x := x) (p := p) (len := len) (cap := cap) w rfl).c0
  by_cases e : k = 8
  · subst e
    go_enter Tryz.func45, Tryz.ntmps45
    go_wp2_with fail
    go_ret
    exact ⟨rfl, low1 _ _⟩
  · have e8 : (k == (8 : Int)) = false := by simpa using e
    have hv : subjP k = (k == 9) := by unfold subjP; rw [e8]; rfl
    rw [hv]
    clear hv e
    go_enter Tryz.func45, Tryz.ntmps45
    go_wp2_with fail
    go_ret
    exact ⟨rfl, low1 _ _⟩

theorem objAt (k : Int) (b : Bool) (n : Int) (t x : ByteArray) (p : Option Addr) (len cap : Nat) (w : World) :
    Calls Tryz.prog 47 #[.agg #[.int .i64 k, .bool b, .int .i64 n, .string t, .string x, .slice p len cap]] w fun e w' => e = .returned (.bool (objP k)) ∧ Low w.heap.size w w' := by
  have h0 := (six_new (k := k) (b := b) (n := n) (t := t) (x := x) (p := p) (len := len) (cap := cap) w rfl).c0
  by_cases e8 : k = 8
  · subst e8
    go_enter Tryz.func47, Tryz.ntmps47
    go_wp2_with fail
    go_ret
    exact ⟨rfl, low1 _ _⟩
  by_cases e9 : k = 9
  · subst e9
    clear e8
    go_enter Tryz.func47, Tryz.ntmps47
    go_wp2_with fail
    go_ret
    exact ⟨rfl, low1 _ _⟩
  by_cases e10 : k = 10
  · subst e10
    clear e8
    clear e9
    go_enter Tryz.func47, Tryz.ntmps47
    go_wp2_with fail
    go_ret
    exact ⟨rfl, low1 _ _⟩
  by_cases e4 : k = 4
  · subst e4
    clear e8
    clear e9
    clear e10
    go_enter Tryz.func47, Tryz.ntmps47
    go_wp2_with fail
    go_ret
    exact ⟨rfl, low1 _ _⟩
  by_cases e1 : k = 1
  · subst e1
    clear e8
    clear e9
    clear e10
    clear e4
    go_enter Tryz.func47, Tryz.ntmps47
    go_wp2_with fail
    go_ret
    exact ⟨rfl, low1 _ _⟩
  by_cases e2 : k = 2
  · subst e2
    clear e8
    clear e9
    clear e10
    clear e4
    clear e1
    go_enter Tryz.func47, Tryz.ntmps47
    go_wp2_with fail
    go_ret
    exact ⟨rfl, low1 _ _⟩
  by_cases e3 : k = 3
  · subst e3
    clear e8
    clear e9
    clear e10
    clear e4
    clear e1
    clear e2
    go_enter Tryz.func47, Tryz.ntmps47
    go_wp2_with fail
    go_ret
    exact ⟨rfl, low1 _ _⟩
  have g8 : (k == (8 : Int)) = false := by simpa using e8
  have g9 : (k == (9 : Int)) = false := by simpa using e9
  have g10 : (k == (10 : Int)) = false := by simpa using e10
  have g4 : (k == (4 : Int)) = false := by simpa using e4
  have g1 : (k == (1 : Int)) = false := by simpa using e1
  have g2 : (k == (2 : Int)) = false := by simpa using e2
  have g3 : (k == (3 : Int)) = false := by simpa using e3
  have hv : objP k = false := by unfold objP; rw [g8, g9, g10, g4, g1, g2, g3]; rfl
  rw [hv]
  clear hv e8 e9 e10 e4 e1 e2 e3
  go_enter Tryz.func47, Tryz.ntmps47
  go_wp2_with fail
  go_ret
  exact ⟨rfl, low1 _ _⟩

/-- compareValues: the order of the strict language. -/
theorem cmpValAt (v v2 : Val) (W : World) (k : Int) (b : Bool) (n : Int) (t x : ByteArray) (q : List Val) (p : Option Addr) (cap : Nat) (k2 : Int) (b2 : Bool) (n2 : Int) (t2 x2 : ByteArray) (q2 : List Val) (p2 : Option Addr) (cap2 : Nat)
    (e : v = .mk k b n t x q) (e2 : v2 = .mk k2 b2 n2 t2 x2 q2) (hG : Gd W) (hT : Tab W) (hf : Fine n t x q.length) (hf2 : Fine n2 t2 x2 q2.length) (hl : Held W (.slice p q.length cap) q) (hl2 : Held W (.slice p2 q2.length cap2) q2) :
    Calls Tryz.prog 74 #[.agg #[.int .i64 k, .bool b, .int .i64 n, .string t, .string x, .slice p q.length cap], .agg #[.int .i64 k2, .bool b2, .int .i64 n2, .string t2, .string x2, .slice p2 q2.length cap2]] W
      fun e w' => e = .returned (.int .i64 (orderI 1 v v2)) ∧ Low W.heap.size W w' := by
  obtain ⟨W0, hW0⟩ : ∃ W0, W0 = (W.alloc (.cells #[.int .i64 k, .bool b, .int .i64 n, .string t, .string x, .slice p q.length cap] 39)).alloc (.cells #[.int .i64 k2, .bool b2, .int .i64 n2, .string t2, .string x2, .slice p2 q2.length cap2] 39) := ⟨_, rfl⟩
  have S4 : Six W0 W.heap.size k b n t x p q.length cap := by rw [hW0]; exact (six_new _ rfl).alloc _
  have S5 : Six W0 (W.heap.size + 1) k2 b2 n2 t2 x2 p2 q2.length cap2 := by rw [hW0]; exact six_new _ (by simp)
  have b0 : Low W.heap.size W W0 := by rw [hW0]; exact low2 _ _ _
  have hc := ordAll v 1 W0 k b n t x q p cap v2 k2 b2 n2 t2 x2 q2 p2 cap2 e e2 (hG.below b0.is) (hT.below b0.is) hf hf2 (Held.below q hl b0.is) (Held.below q2 hl2 b0.is)
  have HW := Lib.hid hW0
  clear hW0 hl hl2 hf hf2 hG hT e e2
  generalize orderI 1 v v2 = r at hc ⊢
  go_enter Tryz.func74, Tryz.ntmps74
  go_wp2_with (first
    | (rw [← HW.out]; (with_reducible refine wpList_load6 (.tmp 2) W.heap.size S4 ?_ ?_ ?_ ?_); rfl; rfl; rfl)
    | ((with_reducible refine wpList_load6 (.tmp 3) (W.heap.size + 1) S5 ?_ ?_ ?_ ?_); rfl; rfl; rfl)
    | (go_at_call 102; (with_reducible refine hc.mono ?_); rintro e w3 ⟨rfl, hb3⟩; replace b0 := low_any b0 hb3 b0.size))
  go_ret
  exact ⟨rfl, b0⟩
end Go.Proofs.YtanbgdhmfjgihaaGreatDoor

/- The document's own answer: whether a text may be an address, a name. -/
namespace Go.Proofs.YtanbgdhmfjgihaaGreatDoor
open Go.RowKit

end Go.Proofs.YtanbgdhmfjgihaaGreatDoor

/- wakes: a sum and a quotient. -/
namespace Go.Proofs.YtanbgdhmfjgihaaGreatDoor
open Go.RowKit

end Go.Proofs.YtanbgdhmfjgihaaGreatDoor

/- What a law of texts keeps from call to call. -/
namespace Go.Proofs.YtanbgdhmfjgihaaGreatDoor
open Go.RowKit

/-- The strings of the argument, in memory. -/
def Strs (w : World) (b off n : Nat) (S : Nat → ByteArray) : Prop := ∀ i, i < n → w.cell? ⟨b, off + i, none⟩ = some (.string (S i))
theorem Strs.below {w w' : World} {b off n : Nat} {S : Nat → ByteArray} (h : Strs w b off n S) (k : Below w.heap.size w w') : Strs w' b off n S := fun i hi =>
  (k.cell (p := ⟨b, off + i, none⟩) (World.block_lt_of_cell? w _ (h i hi))).trans (h i hi)

/-- What holds at every call of a law's round. -/
structure Inv (w : World) (b off n cap : Nat) (S : Nat → ByteArray) (wr : World) : Prop where
  cell : wr.cell? ⟨w.heap.size, 0, none⟩ = some (.slice (some ⟨b, off, none⟩) n cap)
  lt : w.heap.size < wr.heap.size
  bel : Low w.heap.size w wr
  g : Gd wr
  t : Tab wr
  s : Strs wr b off n S
end Go.Proofs.YtanbgdhmfjgihaaGreatDoor

/- The document's own digits: lists of digits in memory, the lowest first: one digit, all noughts, which is greater. -/
namespace Go.Proofs.YtanbgdhmfjgihaaGreatDoor
open Go.RowKit

/-- The number that the first n digits say, the lowest first. -/
def vT : Nat → (Nat → Nat) → Nat
  | 0, _ => 0
  | n + 1, f => vT n f + f n * 10 ^ n
theorem vT_lt (f : Nat → Nat) (h : ∀ j, f j ≤ 9) : ∀ n, vT n f < 10 ^ n
  | 0 => by simp [vT]
  | n + 1 => by
    have := vT_lt f h n
    have h2 : f n * 10 ^ n ≤ 9 * 10 ^ n := Nat.mul_le_mul_right _ (h n)
    show vT n f + f n * 10 ^ n < 10 ^ (n + 1)
    rw [Nat.pow_succ]; omega
theorem vT_pad (f : Nat → Nat) (n : Nat) (h : ∀ j, n ≤ j → f j = 0) : ∀ m, n ≤ m → vT m f = vT n f
  | 0, hm => by rw [Nat.le_zero.1 hm]
  | m + 1, hm => by
    by_cases e : n = m + 1
    · rw [e]
    · show vT m f + f m * 10 ^ m = _
      rw [vT_pad f n h m (by omega), h m (by omega)]; simp

/-- Digit j; 0 beyond. -/
def dig (ds : List Nat) (j : Nat) : Nat := ds.getD j 0
theorem dig_out {ds : List Nat} {j : Nat} (h : ds.length ≤ j) : dig ds j = 0 := by simp [dig, List.getD, h]
/-- The number that the digits say. -/
def val10 (ds : List Nat) : Nat := vT ds.length (dig ds)
/-- Digits, each of them. -/
def Small (ds : List Nat) : Prop := ∀ j, dig ds j ≤ 9
theorem val10_pad (ds : List Nat) {m : Nat} (h : ds.length ≤ m) : vT m (dig ds) = val10 ds := vT_pad _ _ (fun _ hj => dig_out hj) m h

/-- Digits in memory. -/
def Ints (w : World) (v : Value) (ds : List Nat) : Prop :=
  (v = .slice none 0 0 ∧ ds = []) ∨ ∃ b off cap, v = .slice (some ⟨b, off, none⟩) ds.length cap ∧ (∀ i, i < ds.length → w.cell? ⟨b, off + i, none⟩ = some (.int .i64 (dig ds i))) ∧ ∃ cs, w.heap[b]? = some (.cells cs 3 (0, 0))
theorem Ints.below {w w' : World} {v : Value} {ds : List Nat} (h : Ints w v ds) (k : Below w.heap.size w w') : Ints w' v ds := by
  rcases h with h | ⟨b, off, cap, e, hc, cs, hk⟩
  · exact .inl h
  · exact .inr ⟨b, off, cap, e, fun i hi => (k.cell (p := ⟨b, off + i, none⟩) (World.block_lt_of_cell? w _ (hc i hi))).trans (hc i hi), cs, (k.block b (lt_of_heap hk)).trans hk⟩

/-- A block of another type may be written. -/
theorem Ints.only {w w' : World} {v : Value} {ds : List Nat} {g : Nat} {cs : Array Value} {t : TypeId} (h : Ints w v ds) (k : Only g w w') (hg : w.heap[g]? = some (.cells cs t (0, 0))) (ht : t ≠ 3) : Ints w' v ds := by
  rcases h with h | ⟨b, off, cap, e, hc, cs2, hk⟩
  · exact .inl h
  · have hne : b ≠ g := fun x => by
      rw [x, hg] at hk
      injection hk with hk
      injection hk with _ h2 _
      exact ht h2
    have hb := (k.block b (lt_of_heap hk) hne)
    exact .inr ⟨b, off, cap, e, fun i hi => (World.cell?_of_block (w := w) (a := ⟨b, off + i, none⟩) hb).trans (hc i hi), cs2, hb.trans hk⟩

end Go.Proofs.YtanbgdhmfjgihaaGreatDoor

/- The document's own digits: all noughts, which is greater. -/
namespace Go.Proofs.YtanbgdhmfjgihaaGreatDoor
open Go.RowKit

end Go.Proofs.YtanbgdhmfjgihaaGreatDoor

/- The document's own digits: which is greater. -/
namespace Go.Proofs.YtanbgdhmfjgihaaGreatDoor
open Go.RowKit

end Go.Proofs.YtanbgdhmfjgihaaGreatDoor

/- The document's own digits: added. -/
namespace Go.Proofs.YtanbgdhmfjgihaaGreatDoor
open Go.RowKit

theorem info3 : (Tryz.prog.info? 3).map (fun i => (i.zero, i.size, i.bytes)) = some (some (.int .i64 0), 1, 8) := by kernel_rfl

/-- How far the sum has come. -/
structure Added (xs ys : List Nat) (i c : Nat) (zs : List Nat) : Prop where
  len : zs.length = i
  small : Small zs
  car : c ≤ 1
  val : vT i (dig zs) + c * 10 ^ i = vT i (dig xs) + vT i (dig ys)
  done : xs.length < i → ys.length < i → c = 0
theorem Added.all {xs ys zs : List Nat} {i : Nat} (h : Added xs ys i 0 zs) (hx : xs.length ≤ i) (hy : ys.length ≤ i) : val10 zs = val10 xs + val10 ys := by
  have v := h.val
  rw [val10_pad xs hx, val10_pad ys hy] at v
  unfold val10
  rw [h.len]
  unfold val10 at v
  omega

end Go.Proofs.YtanbgdhmfjgihaaGreatDoor

/- The document's own digits: taken away. -/
namespace Go.Proofs.YtanbgdhmfjgihaaGreatDoor
open Go.RowKit

theorem vT_low (f : Nat → Nat) (n : Nat) : ∀ m, n ≤ m → vT m f < 10 ^ n → vT m f = vT n f
  | 0, h, _ => by rw [Nat.le_zero.1 h]
  | m + 1, h, k => by
    by_cases e : n = m + 1
    · rw [e]
    · have h1 : 10 ^ n ≤ 10 ^ m := Nat.pow_le_pow_right (by omega) (by omega)
      have k' : vT m f + f m * 10 ^ m < 10 ^ n := k
      have h2 : f m = 0 := by
        rcases Nat.eq_zero_or_pos (f m) with z | z
        · exact z
        · have : 1 * 10 ^ m ≤ f m * 10 ^ m := Nat.mul_le_mul_right _ z
          omega
      have e2 : vT (m + 1) f = vT m f := by show vT m f + f m * 10 ^ m = _; rw [h2]; simp
      rw [e2]
      exact vT_low f n m (by omega) (by rw [e2] at k; exact k)

/-- How far the difference has come. -/
structure Taken (xs ys : List Nat) (i c : Nat) (zs : List Nat) : Prop where
  len : zs.length = i
  small : Small zs
  car : c ≤ 1
  val : vT i (dig zs) + vT i (dig ys) = vT i (dig xs) + c * 10 ^ i
theorem Taken.all {xs ys zs : List Nat} {c : Nat} (h : Taken xs ys xs.length c zs) (hx : Small xs) (hy : Small ys) (hle : val10 ys ≤ val10 xs) : val10 zs + val10 ys = val10 xs := by
  have v := h.val
  have lx : vT xs.length (dig xs) < 10 ^ xs.length := vT_lt _ hx _
  have lz : vT xs.length (dig zs) < 10 ^ xs.length := vT_lt _ h.small _
  have ez : val10 zs = vT xs.length (dig zs) := by unfold val10; rw [h.len]
  have ex : val10 xs = vT xs.length (dig xs) := rfl
  have ey : val10 ys = vT xs.length (dig ys) := by
    have e := val10_pad ys (m := xs.length + ys.length) (by omega)
    rw [← e]
    exact vT_low _ _ _ (by omega) (by rw [e]; omega)
  have hc := h.car
  have h0 : c = 0 := by
    rcases Nat.eq_zero_or_pos c with z | z
    · exact z
    · obtain rfl : c = 1 := by omega
      rw [Nat.one_mul] at v
      omega
  subst h0
  rw [ez, ex, ey]
  omega

end Go.Proofs.YtanbgdhmfjgihaaGreatDoor

/- The document's own digits: noughts ahead. -/
namespace Go.Proofs.YtanbgdhmfjgihaaGreatDoor
open Go.RowKit

end Go.Proofs.YtanbgdhmfjgihaaGreatDoor

/- How the document reads a text: byte by byte, at most one point. No Go stands here. -/
namespace Go.Proofs.YtanbgdhmfjgihaaGreatDoor

theorem cut_pre (x t : List UInt8) (h : x.all isDig = true) : Lib.cut (x ++ t) [46] = (x ++ (Lib.cut t [46]).1, (Lib.cut t [46]).2.1, (Lib.cut t [46]).2.2) := by
  induction x with
  | nil => rfl
  | cons c r ih =>
    rw [List.all_cons, Bool.and_eq_true] at h
    have hc : c ≠ 46 := fun e => by rw [e] at h; exact absurd h.1 (by decide)
    rw [List.cons_append, cut_step c _ hc, ih h.2]
    rfl
/-- What 'parsed' asks of a text without its sign. -/
def okP (r : List UInt8) : Bool := digs (Lib.cut r [46]).1 && (!(Lib.cut r [46]).2.2 || digs (Lib.cut r [46]).2.1)
/-- The bytes that have been looked at: digits, the point among them or not. -/
def Seen (t : List UInt8) (p : Int) : Prop :=
  (p = -1 ∧ t.all isDig = true) ∨ ∃ x y, t = x ++ 46 :: y ∧ p = x.length ∧ x.all isDig = true ∧ y.all isDig = true
theorem Seen.digit {t : List UInt8} {p : Int} {c : UInt8} (h : Seen t p) (hc : isDig c = true) : Seen (t ++ [c]) p := by
  rcases h with ⟨e, h⟩ | ⟨x, y, e, hp, hx, hy⟩
  · exact .inl ⟨e, by rw [List.all_append, h]; simp [hc]⟩
  · exact .inr ⟨x, y ++ [c], by rw [e]; simp, hp, hx, by rw [List.all_append, hy]; simp [hc]⟩
theorem Seen.point {t : List UInt8} {p : Int} (h : Seen t p) (hp : p < 0) : Seen (t ++ [46]) t.length := by
  rcases h with ⟨_, h⟩ | ⟨x, y, _, e, _⟩
  · exact .inr ⟨t, [], rfl, rfl, h, rfl⟩
  · omega
/-- At the end. -/
theorem Seen.all {t : List UInt8} {p : Int} (h : Seen t p) : okP t = decide (t.length ≠ 0 ∧ p ≠ 0 ∧ p ≠ (t.length : Int) - 1) := by
  unfold okP
  rcases h with ⟨e, h⟩ | ⟨x, y, e, hp', hx, hy⟩
  · have := cut_pre t [] h
    rw [List.append_nil, cut_nil, List.append_nil] at this
    rw [this, e]
    unfold digs
    cases t with
    | nil => rfl
    | cons c r => simp [h]
  · rw [e, cut_dig x y hx, hp']
    simp only
    unfold digs
    rw [hx, hy]
    cases x with
    | nil => simp
    | cons c r =>
      cases y with
      | nil => simp
      | cons d q => simp; omega
end Go.Proofs.YtanbgdhmfjgihaaGreatDoor

/- A number of the document's in a block; a text parsed, as far as its sign and its bytes. -/
namespace Go.Proofs.YtanbgdhmfjgihaaGreatDoor
open Go.RowKit

/-- A number of the document's lies in block g. -/
def Rec (w : World) (g : Nat) (n : Bool) (v : Value) (sc : Int) : Prop := w.heap[g]? = some (.cells #[.bool n, v, .int .i64 sc] 131)
theorem Rec.lt {w : World} {g : Nat} {n : Bool} {v : Value} {sc : Int} (h : Rec w g n v sc) : g < w.heap.size := lt_of_heap h
theorem Rec.below {w w' : World} {g : Nat} {n : Bool} {v : Value} {sc : Int} (h : Rec w g n v sc) (k : Below w.heap.size w w') : Rec w' g n v sc := (k.block g (lt_of_heap h)).trans h
theorem Rec.only {w w' : World} {g b : Nat} {n : Bool} {v : Value} {sc : Int} (h : Rec w g n v sc) (k : Only b w w') (e : g ≠ b) : Rec w' g n v sc := (k.block g (lt_of_heap h) e).trans h
end Go.Proofs.YtanbgdhmfjgihaaGreatDoor

/- A text parsed as the document does. -/
namespace Go.Proofs.YtanbgdhmfjgihaaGreatDoor
open Go.RowKit

theorem heap_set_other {w : World} {b g : Nat} {x : Obj} (h : w.heap[g]? = some x) (o : Nat) (v : Value) (e : b ≠ g) : (w.setCell ⟨b, o, none⟩ v).heap[g]? = some x := by
  simp [World.setCell, Array.getElem?_modify, h]
  intro k; exact absurd k e
theorem Rec.other {w : World} {g b : Nat} {n : Bool} {v : Value} {sc : Int} (h : Rec w g n v sc) (o : Nat) (u : Value) (e : b ≠ g) : Rec (w.setCell ⟨b, o, none⟩ u) g n v sc := heap_set_other h o u e

end Go.Proofs.YtanbgdhmfjgihaaGreatDoor

/- Digits written as a decimal's text: noughts that are needless on both sides. No Go stands here. -/
namespace Go.Proofs.YtanbgdhmfjgihaaGreatDoor

/-- What Form's two counts are when its loops have ended. -/
structure Ends (ds : List Nat) (sc low high : Nat) : Prop where
  l : low ≤ sc
  lz : ∀ j, j < low → dig ds j = 0
  ln : low = sc ∨ dig ds low ≠ 0
  h : sc + 1 ≤ high
  hz : ∀ j, high ≤ j → dig ds j = 0
  hn : high = sc + 1 ∨ dig ds (high - 1) ≠ 0
/-- A number as a whole number scaled by 10 ^ 54. -/
def nval (neg : Bool) (ds : List Nat) (sc : Nat) : Int := sv neg (val10 ds * 10 ^ (54 - sc))
end Go.Proofs.YtanbgdhmfjgihaaGreatDoor

/- The document's numbers written as texts. -/
namespace Go.Proofs.YtanbgdhmfjgihaaGreatDoor
open Go.RowKit

/-- What Form has written so far, and what it goes by. -/
structure FormSt (w : World) (neg : Bool) (v : Value) (sc : Nat) (s6 : Value) (l : List UInt8) (wr : World) : Prop where
  own : wr.ownsRow (w.heap.size + 1) 5 1 s6 l.length (vals l)
  rc : Rec wr w.heap.size neg v sc
  bel : Below w.heap.size w wr
end Go.Proofs.YtanbgdhmfjgihaaGreatDoor

/- The document's reading of texts, and which are decimals. -/
namespace Go.Proofs.YtanbgdhmfjgihaaGreatDoor
open Go.RowKit

end Go.Proofs.YtanbgdhmfjgihaaGreatDoor

/- The document's own answer: whether a value may be, kind by kind, but for lists. -/
namespace Go.Proofs.YtanbgdhmfjgihaaGreatDoor
open Go.RowKit

end Go.Proofs.YtanbgdhmfjgihaaGreatDoor

/- The document's own answer: whether a value may be, kind by kind: more kinds. -/
namespace Go.Proofs.YtanbgdhmfjgihaaGreatDoor
open Go.RowKit


end Go.Proofs.YtanbgdhmfjgihaaGreatDoor

/- The document's own answer: whether a value may be, kind by kind: more kinds. -/
namespace Go.Proofs.YtanbgdhmfjgihaaGreatDoor
open Go.RowKit


end Go.Proofs.YtanbgdhmfjgihaaGreatDoor

/- The document's own answer: whether a value may be: lists, strangers, all put together. -/
namespace Go.Proofs.YtanbgdhmfjgihaaGreatDoor
open Go.RowKit

end Go.Proofs.YtanbgdhmfjgihaaGreatDoor

/- The document's own answer: whether a value may be, for values in one another. -/
namespace Go.Proofs.YtanbgdhmfjgihaaGreatDoor
open Go.RowKit

end Go.Proofs.YtanbgdhmfjgihaaGreatDoor

/- A triple in memory; triples.Check. -/
namespace Go.Proofs.YtanbgdhmfjgihaaGreatDoor
open Go.RowKit

/-- A value's six cells. -/
structure V6 where
  k : Int
  b : Bool
  n : Int
  t : ByteArray
  x : ByteArray
  p : Option Addr
  len : Nat
  cap : Nat
/-- What a value's cells say of it: the value itself, its list in memory, and that all of it is of fair size. -/
structure Is (W : World) (v : V6) (u : Val) (q : List Val) : Prop where
  e : u = .mk v.k v.b v.n v.t v.x q
  hq : v.len = q.length
  hf : Fine v.n v.t v.x q.length
  hl : Held W (.slice v.p v.len v.cap) q
theorem Is.below {W W' : World} {v : V6} {u : Val} {q : List Val} (h : Is W v u q) (b : Below W.heap.size W W') : Is W' v u q := ⟨h.e, h.hq, h.hf, Held.below q h.hl b⟩

theorem info41 : (Tryz.prog.info? 41).map (·.size) = some 18 := by kernel_rfl
/-- A triple's cells in a block of its own. -/
def Box18 (W : World) (g : Nat) (s q o : V6) : Prop := W.heap[g]? = some (.cells #[.int .i64 s.k, .bool s.b, .int .i64 s.n, .string s.t, .string s.x, .slice s.p s.len s.cap, .int .i64 q.k, .bool q.b, .int .i64 q.n, .string q.t, .string q.x, .slice q.p q.len q.cap, .int .i64 o.k, .bool o.b, .int .i64 o.n, .string o.t, .string o.x, .slice o.p o.len o.cap] 41)
section
variable {w w' : World} {g e : Nat} {s q o : V6}
theorem Box18.below (h : Box18 w g s q o) (c : Below w.heap.size w w') : Box18 w' g s q o := (c.block g (lt_of_heap h)).trans h
theorem Box18.only (h : Box18 w g s q o) (c : Only e w w') (d : g ≠ e) : Box18 w' g s q o := (c.block g (lt_of_heap h) d).trans h
theorem Box18.alloc (h : Box18 w g s q o) (b : Obj) : Box18 (w.alloc b) g s q o := heap_old _ h
theorem Box18.lt (h : Box18 w g s q o) : g < w.heap.size := lt_of_heap h
theorem box18_new (w : World) (e : w.heap.size = g) : Box18 (w.alloc (.cells #[.int .i64 s.k, .bool s.b, .int .i64 s.n, .string s.t, .string s.x, .slice s.p s.len s.cap, .int .i64 q.k, .bool q.b, .int .i64 q.n, .string q.t, .string q.x, .slice q.p q.len q.cap, .int .i64 o.k, .bool o.b, .int .i64 o.n, .string o.t, .string o.x, .slice o.p o.len o.cap] 41)) g s q o := heap_new _ _ e

theorem Box18.c0 (h : Box18 w g s q o) : w.cell? ⟨g, 0, none⟩ = some (.int .i64 s.k) := cell_of h _ rfl
theorem Box18.c1 (h : Box18 w g s q o) : w.cell? ⟨g, 1, none⟩ = some (.bool s.b) := cell_of h _ rfl
theorem Box18.c2 (h : Box18 w g s q o) : w.cell? ⟨g, 2, none⟩ = some (.int .i64 s.n) := cell_of h _ rfl
theorem Box18.c3 (h : Box18 w g s q o) : w.cell? ⟨g, 3, none⟩ = some (.string s.t) := cell_of h _ rfl
theorem Box18.c4 (h : Box18 w g s q o) : w.cell? ⟨g, 4, none⟩ = some (.string s.x) := cell_of h _ rfl
theorem Box18.c5 (h : Box18 w g s q o) : w.cell? ⟨g, 5, none⟩ = some (.slice s.p s.len s.cap) := cell_of h _ rfl
theorem Box18.r0 (h : Box18 w g s q o) : w.rangeAt g 0 [.int .i64 s.k, .bool s.b, .int .i64 s.n, .string s.t, .string s.x, .slice s.p s.len s.cap] := range6 h.c0 h.c1 h.c2 h.c3 h.c4 h.c5
theorem Box18.c6 (h : Box18 w g s q o) : w.cell? ⟨g, 6, none⟩ = some (.int .i64 q.k) := cell_of h _ rfl
theorem Box18.c7 (h : Box18 w g s q o) : w.cell? ⟨g, 7, none⟩ = some (.bool q.b) := cell_of h _ rfl
theorem Box18.c8 (h : Box18 w g s q o) : w.cell? ⟨g, 8, none⟩ = some (.int .i64 q.n) := cell_of h _ rfl
theorem Box18.c9 (h : Box18 w g s q o) : w.cell? ⟨g, 9, none⟩ = some (.string q.t) := cell_of h _ rfl
theorem Box18.c10 (h : Box18 w g s q o) : w.cell? ⟨g, 10, none⟩ = some (.string q.x) := cell_of h _ rfl
theorem Box18.c11 (h : Box18 w g s q o) : w.cell? ⟨g, 11, none⟩ = some (.slice q.p q.len q.cap) := cell_of h _ rfl
theorem Box18.r1 (h : Box18 w g s q o) : w.rangeAt g 6 [.int .i64 q.k, .bool q.b, .int .i64 q.n, .string q.t, .string q.x, .slice q.p q.len q.cap] := range6 h.c6 h.c7 h.c8 h.c9 h.c10 h.c11
theorem Box18.c12 (h : Box18 w g s q o) : w.cell? ⟨g, 12, none⟩ = some (.int .i64 o.k) := cell_of h _ rfl
theorem Box18.c13 (h : Box18 w g s q o) : w.cell? ⟨g, 13, none⟩ = some (.bool o.b) := cell_of h _ rfl
theorem Box18.c14 (h : Box18 w g s q o) : w.cell? ⟨g, 14, none⟩ = some (.int .i64 o.n) := cell_of h _ rfl
theorem Box18.c15 (h : Box18 w g s q o) : w.cell? ⟨g, 15, none⟩ = some (.string o.t) := cell_of h _ rfl
theorem Box18.c16 (h : Box18 w g s q o) : w.cell? ⟨g, 16, none⟩ = some (.string o.x) := cell_of h _ rfl
theorem Box18.c17 (h : Box18 w g s q o) : w.cell? ⟨g, 17, none⟩ = some (.slice o.p o.len o.cap) := cell_of h _ rfl
theorem Box18.r2 (h : Box18 w g s q o) : w.rangeAt g 12 [.int .i64 o.k, .bool o.b, .int .i64 o.n, .string o.t, .string o.x, .slice o.p o.len o.cap] := range6 h.c12 h.c13 h.c14 h.c15 h.c16 h.c17
end

/-- A value is read out of the middle of a block; behind a guard that is met. -/
theorem wpList_mid6 {ops : Array Oper} {rest : List Oper} {o : Oper} {a : Act} {w : World} {Q : Exit → Act → World → Prop} (y : Operand) (g off : Nat) (v : V6) (h6 : w.rangeAt g off [.int .i64 v.k, .bool v.b, .int .i64 v.n, .string v.t, .string v.x, .slice v.p v.len v.cap])
    (hgd : o.guard = none) (ho : o.op = .load 39 y) (hx : a.eval y = .pointer (some ⟨g, off, none⟩))
    (h : wpList Tryz.prog ops Q rest (a.put o.dst (.agg #[.int .i64 v.k, .bool v.b, .int .i64 v.n, .string v.t, .string v.x, .slice v.p v.len v.cap])) w) : wpList Tryz.prog ops Q (o :: rest) a w :=
  wpList_load_mid hgd 39 y ho g off hx [.int .i64 v.k, .bool v.b, .int .i64 v.n, .string v.t, .string v.x, .slice v.p v.len v.cap] _ h6 Tryz.underlying39 rfl info28 h
theorem wpList_mid6g {ops : Array Oper} {rest : List Oper} {o : Oper} {a : Act} {w : World} {Q : Exit → Act → World → Prop} (y : Operand) (g off : Nat) (v : V6) (h6 : w.rangeAt g off [.int .i64 v.k, .bool v.b, .int .i64 v.n, .string v.t, .string v.x, .slice v.p v.len v.cap])
    (hw : Region.wanted o (yielded ops a.tmps) = true) (ho : o.op = .load 39 y) (hx : a.eval y = .pointer (some ⟨g, off, none⟩))
    (h : wpList Tryz.prog ops Q rest (a.put o.dst (.agg #[.int .i64 v.k, .bool v.b, .int .i64 v.n, .string v.t, .string v.x, .slice v.p v.len v.cap])) w) : wpList Tryz.prog ops Q (o :: rest) a w := by
  unfold wpList
  rw [if_pos hw]
  refine .inl ?_
  unfold Oper.wp execOp
  simp only [ho, hx, Instr.loadAt, Instr.sureAddr, Sem.run_bind, Sem.run_pure, Result.andThen_ok, run_loadVar_mid (P := Tryz.prog) w g off 39 [.int .i64 v.k, .bool v.b, .int .i64 v.n, .string v.t, .string v.x, .slice v.p v.len v.cap] _ h6 Tryz.underlying39 rfl info28]
  exact h

/-- Whether a triple may be. -/
def chkP (s q o : V6) (us uq uo : Val) : Bool := subjP s.k && predP q.k && objP o.k && mayP us 0 && mayP uq 0 && mayP uo 0

set_option maxHeartbeats 3200000 in
set_option maxRecDepth 20000 in
theorem checkTri (s q o : V6) (us uq uo : Val) (ls lq lo : List Val) (W : World) (hG : Gd W) (hs : Is W s us ls) (hq : Is W q uq lq) (ho : Is W o uo lo) :
    Calls Tryz.prog 13 #[.agg #[.int .i64 s.k, .bool s.b, .int .i64 s.n, .string s.t, .string s.x, .slice s.p s.len s.cap, .int .i64 q.k, .bool q.b, .int .i64 q.n, .string q.t, .string q.x, .slice q.p q.len q.cap, .int .i64 o.k, .bool o.b, .int .i64 o.n, .string o.t, .string o.x, .slice o.p o.len o.cap]] W fun e w' => e = .returned (.bool (chkP s q o us uq uo)) ∧ Low W.heap.size W w' := by
  obtain ⟨W0, hW0⟩ : ∃ W0, W0 = W.alloc (.cells #[.int .i64 s.k, .bool s.b, .int .i64 s.n, .string s.t, .string s.x, .slice s.p s.len s.cap, .int .i64 q.k, .bool q.b, .int .i64 q.n, .string q.t, .string q.x, .slice q.p q.len q.cap, .int .i64 o.k, .bool o.b, .int .i64 o.n, .string o.t, .string o.x, .slice o.p o.len o.cap] 41) := ⟨_, rfl⟩
  have B : Box18 W0 W.heap.size s q o := by rw [hW0]; exact box18_new _ rfl
  have b0 : Low W.heap.size W W0 := by rw [hW0]; exact low1 _ _
  have hc1 := fun w => subjAt s.k s.b s.n s.t s.x s.p s.len s.cap w
  have hc2 := fun w => predAt q.k q.b q.n q.t q.x q.p q.len q.cap w
  have hc3 := fun w => objAt o.k o.b o.n o.t o.x o.p o.len o.cap w
  have hc4 := fun w (h : Low W.heap.size W w) => checkAtV us s.k s.b s.n s.t s.x ls _ w hs.e (hG.below h.is) hs.hf.ht hs.hf.hx (hs.below h.is).hl
  have hc5 := fun w (h : Low W.heap.size W w) => checkAtV uq q.k q.b q.n q.t q.x lq _ w hq.e (hG.below h.is) hq.hf.ht hq.hf.hx (hq.below h.is).hl
  have hc6 := fun w (h : Low W.heap.size W w) => checkAtV uo o.k o.b o.n o.t o.x lo _ w ho.e (hG.below h.is) ho.hf.ht ho.hf.hx (ho.below h.is).hl
  have HW := Lib.hid hW0
  clear hW0 hs hq ho hG
  unfold chkP
  generalize subjP s.k = r1 at hc1 ⊢
  generalize predP q.k = r2 at hc2 ⊢
  generalize objP o.k = r3 at hc3 ⊢
  generalize mayP us 0 = r4 at hc4 ⊢
  generalize mayP uq 0 = r5 at hc5 ⊢
  generalize mayP uo 0 = r6 at hc6 ⊢
  cases r1 with
  | false =>
    clear hc2
    clear hc3
    clear hc4
    clear hc5
    clear hc6
    rw [show (false && r2 && r3 && r4 && r5 && r6) = false by simp]
    go_enter Tryz.func13, Tryz.ntmps13
    go_wp2_with (first
      | (rw [← HW.out]; (with_reducible refine wpList_mid6 (.tmp 3) W.heap.size 0 s B.r0 ?_ ?_ ?_ ?_); rfl; rfl; rfl)
      | (go_at_call 45; (with_reducible refine (hc1 _).mono ?_); rintro e w3 ⟨rfl, hb3⟩; replace b0 := low_any b0 hb3 b0.size; replace B := B.below hb3.is; clear hb3))
    go_ret
    exact ⟨rfl, b0⟩
  | true =>
    cases r2 with
    | false =>
      clear hc3
      clear hc4
      clear hc5
      clear hc6
      rw [show (true && false && r3 && r4 && r5 && r6) = false by simp]
      go_enter Tryz.func13, Tryz.ntmps13
      go_wp2_with (first
        | (rw [← HW.out]; (with_reducible refine wpList_mid6 (.tmp 3) W.heap.size 0 s B.r0 ?_ ?_ ?_ ?_); rfl; rfl; rfl)
        | ((with_reducible refine wpList_mid6g (.tmp 7) W.heap.size 6 q B.r1 ?_ ?_ ?_ ?_); rfl; rfl; rfl)
        | (go_at_call 45; (with_reducible refine (hc1 _).mono ?_); rintro e w3 ⟨rfl, hb3⟩; replace b0 := low_any b0 hb3 b0.size; replace B := B.below hb3.is; clear hb3)
        | (go_at_call 46; (with_reducible refine (hc2 _).mono ?_); rintro e w3 ⟨rfl, hb3⟩; replace b0 := low_any b0 hb3 b0.size; replace B := B.below hb3.is; clear hb3))
      go_ret
      exact ⟨rfl, b0⟩
    | true =>
      cases r3 with
      | false =>
        clear hc4
        clear hc5
        clear hc6
        rw [show (true && true && false && r4 && r5 && r6) = false by simp]
        go_enter Tryz.func13, Tryz.ntmps13
        go_wp2_with (first
          | (rw [← HW.out]; (with_reducible refine wpList_mid6 (.tmp 3) W.heap.size 0 s B.r0 ?_ ?_ ?_ ?_); rfl; rfl; rfl)
          | ((with_reducible refine wpList_mid6g (.tmp 7) W.heap.size 6 q B.r1 ?_ ?_ ?_ ?_); rfl; rfl; rfl)
          | ((with_reducible refine wpList_mid6g (.tmp 12) W.heap.size 12 o B.r2 ?_ ?_ ?_ ?_); rfl; rfl; rfl)
          | (go_at_call 45; (with_reducible refine (hc1 _).mono ?_); rintro e w3 ⟨rfl, hb3⟩; replace b0 := low_any b0 hb3 b0.size; replace B := B.below hb3.is; clear hb3)
          | (go_at_call 46; (with_reducible refine (hc2 _).mono ?_); rintro e w3 ⟨rfl, hb3⟩; replace b0 := low_any b0 hb3 b0.size; replace B := B.below hb3.is; clear hb3)
          | (go_at_call 47; (with_reducible refine (hc3 _).mono ?_); rintro e w3 ⟨rfl, hb3⟩; replace b0 := low_any b0 hb3 b0.size; replace B := B.below hb3.is; clear hb3))
        go_ret
        exact ⟨rfl, b0⟩
      | true =>
        cases r4 with
        | false =>
          clear hc5
          clear hc6
          rw [show (true && true && true && false && r5 && r6) = false by simp]
          go_enter Tryz.func13, Tryz.ntmps13
          go_wp2_with (first
            | (rw [← HW.out]; (with_reducible refine wpList_mid6 (.tmp 3) W.heap.size 0 s B.r0 ?_ ?_ ?_ ?_); rfl; rfl; rfl)
            | ((with_reducible refine wpList_mid6g (.tmp 7) W.heap.size 6 q B.r1 ?_ ?_ ?_ ?_); rfl; rfl; rfl)
            | ((with_reducible refine wpList_mid6g (.tmp 12) W.heap.size 12 o B.r2 ?_ ?_ ?_ ?_); rfl; rfl; rfl)
            | ((with_reducible refine wpList_mid6g (.tmp 17) W.heap.size 0 s B.r0 ?_ ?_ ?_ ?_); rfl; rfl; rfl)
            | (go_at_call 45; (with_reducible refine (hc1 _).mono ?_); rintro e w3 ⟨rfl, hb3⟩; replace b0 := low_any b0 hb3 b0.size; replace B := B.below hb3.is; clear hb3)
            | (go_at_call 46; (with_reducible refine (hc2 _).mono ?_); rintro e w3 ⟨rfl, hb3⟩; replace b0 := low_any b0 hb3 b0.size; replace B := B.below hb3.is; clear hb3)
            | (go_at_call 47; (with_reducible refine (hc3 _).mono ?_); rintro e w3 ⟨rfl, hb3⟩; replace b0 := low_any b0 hb3 b0.size; replace B := B.below hb3.is; clear hb3)
            | (go_at_call 48; (with_reducible refine (hc4 _ b0).mono ?_); rintro e w3 ⟨rfl, hb3⟩; replace b0 := low_any b0 hb3 b0.size; replace B := B.below hb3.is; clear hb3))
          go_ret
          exact ⟨rfl, b0⟩
        | true =>
          cases r5 with
          | false =>
            clear hc6
            rw [show (true && true && true && true && false && r6) = false by simp]
            go_enter Tryz.func13, Tryz.ntmps13
            go_wp2_with (first
              | (rw [← HW.out]; (with_reducible refine wpList_mid6 (.tmp 3) W.heap.size 0 s B.r0 ?_ ?_ ?_ ?_); rfl; rfl; rfl)
              | ((with_reducible refine wpList_mid6g (.tmp 7) W.heap.size 6 q B.r1 ?_ ?_ ?_ ?_); rfl; rfl; rfl)
              | ((with_reducible refine wpList_mid6g (.tmp 12) W.heap.size 12 o B.r2 ?_ ?_ ?_ ?_); rfl; rfl; rfl)
              | ((with_reducible refine wpList_mid6g (.tmp 17) W.heap.size 0 s B.r0 ?_ ?_ ?_ ?_); rfl; rfl; rfl)
              | ((with_reducible refine wpList_mid6g (.tmp 22) W.heap.size 6 q B.r1 ?_ ?_ ?_ ?_); rfl; rfl; rfl)
              | (go_at_call 45; (with_reducible refine (hc1 _).mono ?_); rintro e w3 ⟨rfl, hb3⟩; replace b0 := low_any b0 hb3 b0.size; replace B := B.below hb3.is; clear hb3)
              | (go_at_call 46; (with_reducible refine (hc2 _).mono ?_); rintro e w3 ⟨rfl, hb3⟩; replace b0 := low_any b0 hb3 b0.size; replace B := B.below hb3.is; clear hb3)
              | (go_at_call 47; (with_reducible refine (hc3 _).mono ?_); rintro e w3 ⟨rfl, hb3⟩; replace b0 := low_any b0 hb3 b0.size; replace B := B.below hb3.is; clear hb3)
              | (go_at_call 48; (with_reducible refine (hc4 _ b0).mono ?_); rintro e w3 ⟨rfl, hb3⟩; replace b0 := low_any b0 hb3 b0.size; replace B := B.below hb3.is; clear hb3)
              | (go_at_call 48; (with_reducible refine (hc5 _ b0).mono ?_); rintro e w3 ⟨rfl, hb3⟩; replace b0 := low_any b0 hb3 b0.size; replace B := B.below hb3.is; clear hb3))
            go_ret
            exact ⟨rfl, b0⟩
          | true =>
            cases r6 with
            | false =>
              rw [show (true && true && true && true && true && false) = false by simp]
              go_enter Tryz.func13, Tryz.ntmps13
              go_wp2_with (first
                | (rw [← HW.out]; (with_reducible refine wpList_mid6 (.tmp 3) W.heap.size 0 s B.r0 ?_ ?_ ?_ ?_); rfl; rfl; rfl)
                | ((with_reducible refine wpList_mid6g (.tmp 7) W.heap.size 6 q B.r1 ?_ ?_ ?_ ?_); rfl; rfl; rfl)
                | ((with_reducible refine wpList_mid6g (.tmp 12) W.heap.size 12 o B.r2 ?_ ?_ ?_ ?_); rfl; rfl; rfl)
                | ((with_reducible refine wpList_mid6g (.tmp 17) W.heap.size 0 s B.r0 ?_ ?_ ?_ ?_); rfl; rfl; rfl)
                | ((with_reducible refine wpList_mid6g (.tmp 22) W.heap.size 6 q B.r1 ?_ ?_ ?_ ?_); rfl; rfl; rfl)
                | ((with_reducible refine wpList_mid6g (.tmp 27) W.heap.size 12 o B.r2 ?_ ?_ ?_ ?_); rfl; rfl; rfl)
                | (go_at_call 45; (with_reducible refine (hc1 _).mono ?_); rintro e w3 ⟨rfl, hb3⟩; replace b0 := low_any b0 hb3 b0.size; replace B := B.below hb3.is; clear hb3)
                | (go_at_call 46; (with_reducible refine (hc2 _).mono ?_); rintro e w3 ⟨rfl, hb3⟩; replace b0 := low_any b0 hb3 b0.size; replace B := B.below hb3.is; clear hb3)
                | (go_at_call 47; (with_reducible refine (hc3 _).mono ?_); rintro e w3 ⟨rfl, hb3⟩; replace b0 := low_any b0 hb3 b0.size; replace B := B.below hb3.is; clear hb3)
                | (go_at_call 48; (with_reducible refine (hc4 _ b0).mono ?_); rintro e w3 ⟨rfl, hb3⟩; replace b0 := low_any b0 hb3 b0.size; replace B := B.below hb3.is; clear hb3)
                | (go_at_call 48; (with_reducible refine (hc5 _ b0).mono ?_); rintro e w3 ⟨rfl, hb3⟩; replace b0 := low_any b0 hb3 b0.size; replace B := B.below hb3.is; clear hb3)
                | (go_at_call 48; (with_reducible refine (hc6 _ b0).mono ?_); rintro e w3 ⟨rfl, hb3⟩; replace b0 := low_any b0 hb3 b0.size; replace B := B.below hb3.is; clear hb3))
              go_ret
              exact ⟨rfl, b0⟩
            | true =>
              go_enter Tryz.func13, Tryz.ntmps13
              go_wp2_with (first
                | (rw [← HW.out]; (with_reducible refine wpList_mid6 (.tmp 3) W.heap.size 0 s B.r0 ?_ ?_ ?_ ?_); rfl; rfl; rfl)
                | ((with_reducible refine wpList_mid6g (.tmp 7) W.heap.size 6 q B.r1 ?_ ?_ ?_ ?_); rfl; rfl; rfl)
                | ((with_reducible refine wpList_mid6g (.tmp 12) W.heap.size 12 o B.r2 ?_ ?_ ?_ ?_); rfl; rfl; rfl)
                | ((with_reducible refine wpList_mid6g (.tmp 17) W.heap.size 0 s B.r0 ?_ ?_ ?_ ?_); rfl; rfl; rfl)
                | ((with_reducible refine wpList_mid6g (.tmp 22) W.heap.size 6 q B.r1 ?_ ?_ ?_ ?_); rfl; rfl; rfl)
                | ((with_reducible refine wpList_mid6g (.tmp 27) W.heap.size 12 o B.r2 ?_ ?_ ?_ ?_); rfl; rfl; rfl)
                | (go_at_call 45; (with_reducible refine (hc1 _).mono ?_); rintro e w3 ⟨rfl, hb3⟩; replace b0 := low_any b0 hb3 b0.size; replace B := B.below hb3.is; clear hb3)
                | (go_at_call 46; (with_reducible refine (hc2 _).mono ?_); rintro e w3 ⟨rfl, hb3⟩; replace b0 := low_any b0 hb3 b0.size; replace B := B.below hb3.is; clear hb3)
                | (go_at_call 47; (with_reducible refine (hc3 _).mono ?_); rintro e w3 ⟨rfl, hb3⟩; replace b0 := low_any b0 hb3 b0.size; replace B := B.below hb3.is; clear hb3)
                | (go_at_call 48; (with_reducible refine (hc4 _ b0).mono ?_); rintro e w3 ⟨rfl, hb3⟩; replace b0 := low_any b0 hb3 b0.size; replace B := B.below hb3.is; clear hb3)
                | (go_at_call 48; (with_reducible refine (hc5 _ b0).mono ?_); rintro e w3 ⟨rfl, hb3⟩; replace b0 := low_any b0 hb3 b0.size; replace B := B.below hb3.is; clear hb3)
                | (go_at_call 48; (with_reducible refine (hc6 _ b0).mono ?_); rintro e w3 ⟨rfl, hb3⟩; replace b0 := low_any b0 hb3 b0.size; replace B := B.below hb3.is; clear hb3))
              go_ret
              exact ⟨rfl, b0⟩

end Go.Proofs.YtanbgdhmfjgihaaGreatDoor

/- The document's own answer: signs, ranks, whether a value is a number, truths. -/
namespace Go.Proofs.YtanbgdhmfjgihaaGreatDoor
open Go.RowKit

end Go.Proofs.YtanbgdhmfjgihaaGreatDoor

/- How two lists stand, by the document's own rows, given how their elements do. -/
namespace Go.Proofs.YtanbgdhmfjgihaaGreatDoor
open Go.RowKit

end Go.Proofs.YtanbgdhmfjgihaaGreatDoor

/- Both texts as numbers of the document's, and whether they are decimals. -/
namespace Go.Proofs.YtanbgdhmfjgihaaGreatDoor
open Go.RowKit

/-- What is known within the last statement of 'two'. -/
structure TwoS (w : World) (g7 g9 : Nat) (N1 : Bool) (u : Value) (s1 : Int) (d1 : List Nat) (N2 : Bool) (v : Value) (s2 : Int) (d2 : List Nat) (w' : World) : Prop where
  r7 : Rec w' g7 N1 u s1
  r9 : Rec w' g9 N2 v s2
  r4 : ∃ n z k, Rec w' w.heap.size n z k
  r5 : ∃ n z k, Rec w' (w.heap.size + 1) n z k
  i1 : Ints w' u d1
  i2 : Ints w' v d2
  bel : Below w.heap.size w w'
  n7 : w.heap.size + 2 ≤ g7
  n9 : w.heap.size + 2 ≤ g9
theorem TwoS.below {w w' w2 : World} {g7 g9 : Nat} {N1 N2 : Bool} {u v : Value} {s1 s2 : Int} {d1 d2 : List Nat} (h : TwoS w g7 g9 N1 u s1 d1 N2 v s2 d2 w') (k : Below w'.heap.size w' w2) : TwoS w g7 g9 N1 u s1 d1 N2 v s2 d2 w2 := by
  obtain ⟨n4, z4, k4, r4⟩ := h.r4
  obtain ⟨n5, z5, k5, r5⟩ := h.r5
  exact ⟨h.r7.below k, h.r9.below k, ⟨_, _, _, r4.below k⟩, ⟨_, _, _, r5.below k⟩, h.i1.below k, h.i2.below k, below_any h.bel k (Nat.le_of_lt r4.lt), h.n7, h.n9⟩
def ParsedAs (s : ByteArray) (N : Bool) (sc : Int) (ds : List Nat) (o : Bool) : Prop :=
  ∀ W, Calls Tryz.prog 120 #[.string s] W fun e w' => ∃ u, e = .returned (.tuple #[.agg #[.bool N, u, .int .i64 sc], .bool o]) ∧ Ints w' u ds ∧ Below W.heap.size W w'
theorem ParsedAs.at {s : ByteArray} {N : Bool} {sc : Int} {ds : List Nat} {o : Bool} (h : ParsedAs s N sc ds o) (W : World) : Calls Tryz.prog 120 #[.string s] W fun e w' => ∃ u, e = .returned (.tuple #[.agg #[.bool N, u, .int .i64 sc], .bool o]) ∧ Ints w' u ds ∧ Below W.heap.size W w' := h W
def CheckedAs (s : ByteArray) (c : Bool) : Prop := ∀ W, Calls Tryz.prog 99 #[.string s] W fun e w' => e = .returned (.bool c) ∧ Below W.heap.size W w'
theorem CheckedAs.at {s : ByteArray} {c : Bool} (h : CheckedAs s c) (W : World) : Calls Tryz.prog 99 #[.string s] W fun e w' => e = .returned (.bool c) ∧ Below W.heap.size W w' := h W
end Go.Proofs.YtanbgdhmfjgihaaGreatDoor

/- Sums, products and quotients of digits, as numbers. No Go stands here. -/
namespace Go.Proofs.YtanbgdhmfjgihaaGreatDoor

/-- A round of the inner loop of a product: digit x of the one number at place i times the digits of the other. -/
structure Row (i x : Nat) (bs' : List Nat) (D0 : Nat) (len : Nat) (ds : List Nat) (k c : Nat) : Prop where
  small : Small ds
  len : ds.length = len
  car : c ≤ 9
  val : val10 ds + c * 10 ^ (i + k) = D0 + x * vT k (dig bs') * 10 ^ i
theorem Row.all {i x len k : Nat} {xs bs' ds : List Nat} (h : Row i x bs' (vT i (dig xs) * val10 bs') len ds k 0) (hx : x = dig xs i) (hk : bs'.length ≤ k) : val10 ds = vT (i + 1) (dig xs) * val10 bs' := by
  have v := h.val
  rw [val10_pad bs' hk, Nat.zero_mul, Nat.add_zero] at v
  rw [v]
  show _ = (vT i (dig xs) + dig xs i * 10 ^ i) * val10 bs'
  rw [Nat.add_mul, hx, Nat.mul_right_comm]

end Go.Proofs.YtanbgdhmfjgihaaGreatDoor

/- The document's reckoning with digits is reckoning with numbers scaled by 10 ^ 54. No Go stands here. -/
namespace Go.Proofs.YtanbgdhmfjgihaaGreatDoor

/-- What a decimal is to the document: its sign, its digits, how many of them are behind the point. -/
structure Dec (l : List UInt8) (n : Bool) (ds : List Nat) (sc : Nat) : Prop where
  sign : n = dsign l
  small : Small ds
  amt : val10 ds * 10 ^ (54 - sc) = damt l
  sc : sc ≤ 20
  len : ds.length ≤ 60
theorem Dec.val {l : List UInt8} {n : Bool} {ds : List Nat} {sc : Nat} (h : Dec l n ds sc) : nval n ds sc = dval l := by
  unfold nval dval; rw [h.amt, h.sign]
theorem Dec.zero {l : List UInt8} {n : Bool} {ds : List Nat} {sc : Nat} (h : Dec l n ds sc) : val10 ds = 0 ↔ damt l = 0 := by
  have := h.amt
  constructor
  · intro e; rw [← this, e, Nat.zero_mul]
  · intro e
    rw [e, Nat.mul_eq_zero] at this
    rcases this with k | k
    · exact k
    · exact absurd k (Nat.pos_iff_ne_zero.1 (Nat.pow_pos (by decide)))
end Go.Proofs.YtanbgdhmfjgihaaGreatDoor

/- The sum of two numbers of the document's. -/
namespace Go.Proofs.YtanbgdhmfjgihaaGreatDoor
open Go.RowKit

/-- What is known within the last statements of 'plus'. -/
structure PlusS (w : World) (N1 : Bool) (u : Value) (s1 : Int) (N2 : Bool) (v : Value) (s2 : Int) (x : Value) (dx : List Nat) (y : Value) (dy : List Nat) (w' : World) : Prop where
  r2 : Rec w' w.heap.size N1 u s1
  r3 : Rec w' (w.heap.size + 1) N2 v s2
  r4 : ∃ n z k, Rec w' (w.heap.size + 2) n z k
  i1 : Ints w' x dx
  i2 : Ints w' y dy
  bel : Below w.heap.size w w'
theorem PlusS.below {w w' w2 : World} {N1 N2 : Bool} {u v x y : Value} {s1 s2 : Int} {dx dy : List Nat} (h : PlusS w N1 u s1 N2 v s2 x dx y dy w') (k : Below w'.heap.size w' w2) : PlusS w N1 u s1 N2 v s2 x dx y dy w2 :=
  ⟨h.r2.below k, h.r3.below k, (have ⟨n, z, q, r⟩ := h.r4; ⟨n, z, q, r.below k⟩), h.i1.below k, h.i2.below k, below_any h.bel k (Nat.le_of_lt h.r2.lt)⟩
end Go.Proofs.YtanbgdhmfjgihaaGreatDoor

/- Both texts as numbers: four ways. -/
namespace Go.Proofs.YtanbgdhmfjgihaaGreatDoor
open Go.RowKit

end Go.Proofs.YtanbgdhmfjgihaaGreatDoor
