/- Texts of one kind, one behind the other: each says ahead of itself what it shows. -/
import Derived.Test.YtanbgdhmfjgihaaGreatDoorJal
import Derived.WalkKit
import Derived.OwnWalk
import Derived.Deep.QuietTactic
import Derived.BigQuiet
import Derived.Laws.AppendOwnNone
/- The document's own digits: lists of digits in memory, the lowest first: one digit, all noughts, which is greater. -/
namespace Go.Proofs.YtanbgdhmfjgihaaGreatDoor
open Go.RowKit

/-- The number that the first n digits say, the lowest first. -/
def vT : Nat → (Nat → Nat) → Nat
  | 0, _ => 0
  | n + 1, f => vT n f + f n * 10 ^ n
theorem vT_lt (f : Nat → Nat) (h : ∀ j, f j ≤ 9) : ∀ n, vT n f < 10 ^ n
  | 0 => by simp [vT]
  | n + 1 => by
    have := vT_lt f h n
    have h2 : f n * 10 ^ n ≤ 9 * 10 ^ n := Nat.mul_le_mul_right _ (h n)
    show vT n f + f n * 10 ^ n < 10 ^ (n + 1)
    rw [Nat.pow_succ]; omega
theorem vT_eq (f g : Nat → Nat) : ∀ n, (∀ j, j < n → f j = g j) → vT n f = vT n g
  | 0, _ => rfl
  | n + 1, h => by
    show vT n f + f n * 10 ^ n = vT n g + g n * 10 ^ n
    rw [vT_eq f g n (fun j hj => h j (by omega)), h n (by omega)]
theorem vT_cmp (f g : Nat → Nat) (hf : ∀ j, f j ≤ 9) (k : Nat) (hk : f k < g k) : ∀ n, k < n → (∀ j, k < j → j < n → f j = g j) → vT n f < vT n g
  | n + 1, h, e => by
    show vT n f + f n * 10 ^ n < vT n g + g n * 10 ^ n
    by_cases hn : k = n
    · subst hn
      have h1 := vT_lt f hf k
      have h2 : (f k + 1) * 10 ^ k ≤ g k * 10 ^ k := Nat.mul_le_mul_right _ hk
      rw [Nat.add_mul, Nat.one_mul] at h2
      omega
    · have := vT_cmp f g hf k hk n (by omega) (fun j a b => e j a (by omega))
      rw [e n (by omega) (by omega)]
      omega
theorem vT_pad (f : Nat → Nat) (n : Nat) (h : ∀ j, n ≤ j → f j = 0) : ∀ m, n ≤ m → vT m f = vT n f
  | 0, hm => by rw [Nat.le_zero.1 hm]
  | m + 1, hm => by
    by_cases e : n = m + 1
    · rw [e]
    · show vT m f + f m * 10 ^ m = _
      rw [vT_pad f n h m (by omega), h m (by omega)]; simp

/-- Digit j; 0 beyond. -/
def dig (ds : List Nat) (j : Nat) : Nat := ds.getD j 0
theorem dig_out {ds : List Nat} {j : Nat} (h : ds.length ≤ j) : dig ds j = 0 := by simp [dig, List.getD, h]
/-- The number that the digits say. -/
def val10 (ds : List Nat) : Nat := vT ds.length (dig ds)
/-- Digits, each of them. -/
def Small (ds : List Nat) : Prop := ∀ j, dig ds j ≤ 9
theorem val10_pad (ds : List Nat) {m : Nat} (h : ds.length ≤ m) : vT m (dig ds) = val10 ds := vT_pad _ _ (fun _ hj => dig_out hj) m h

/-- Digits in memory. -/
def Ints (w : World) (v : Value) (ds : List Nat) : Prop :=
  (v = .slice none 0 0 ∧ ds = []) ∨ ∃ b off cap, v = .slice (some ⟨b, off, none⟩) ds.length cap ∧ (∀ i, i < ds.length → w.cell? ⟨b, off + i, none⟩ = some (.int .i64 (dig ds i))) ∧ ∃ cs, w.heap[b]? = some (.cells cs 3 (0, 0))
theorem Ints.below {w w' : World} {v : Value} {ds : List Nat} (h : Ints w v ds) (k : Below w.heap.size w w') : Ints w' v ds := by
  rcases h with h | ⟨b, off, cap, e, hc, cs, hk⟩
  · exact .inl h
  · exact .inr ⟨b, off, cap, e, fun i hi => (k.cell (p := ⟨b, off + i, none⟩) (World.block_lt_of_cell? w _ (hc i hi))).trans (hc i hi), cs, (k.block b (lt_of_heap hk)).trans hk⟩

/-- A block of another type may be written. -/
theorem Ints.only {w w' : World} {v : Value} {ds : List Nat} {g : Nat} {cs : Array Value} {t : TypeId} (h : Ints w v ds) (k : Only g w w') (hg : w.heap[g]? = some (.cells cs t (0, 0))) (ht : t ≠ 3) : Ints w' v ds := by
  rcases h with h | ⟨b, off, cap, e, hc, cs2, hk⟩
  · exact .inl h
  · have hne : b ≠ g := fun x => by
      rw [x, hg] at hk
      injection hk with hk
      injection hk with _ h2 _
      exact ht h2
    have hb := (k.block b (lt_of_heap hk) hne)
    exact .inr ⟨b, off, cap, e, fun i hi => (World.cell?_of_block (w := w) (a := ⟨b, off + i, none⟩) hb).trans (hc i hi), cs2, hb.trans hk⟩

theorem digitRefAt (c : Nat) (w : World) (hc : c < 256) : Calls Tryz.prog 157 #[.int .u8 c] w fun e w' => e = .returned (.bool (decide (48 ≤ c ∧ c ≤ 57))) ∧ w = w' := by
  by_cases h1 : (48 : Int) ≤ c
  · by_cases h2 : (c : Int) ≤ 57
    · have : decide (48 ≤ c ∧ c ≤ 57) = true := by simp; omega
      rw [this]
      go_enter Tryz.func157, Tryz.ntmps157
      go_wp2
      go_ret
      exact ⟨rfl, rfl⟩
    · have : decide (48 ≤ c ∧ c ≤ 57) = false := by simp; omega
      rw [this]
      go_enter Tryz.func157, Tryz.ntmps157
      go_wp2
      go_ret
      exact ⟨by simp, rfl⟩
  · have : decide (48 ≤ c ∧ c ≤ 57) = false := by simp; omega
    rw [this]
    go_enter Tryz.func157, Tryz.ntmps157
    go_wp2
    go_ret
    exact ⟨by simp, rfl⟩

/-- What 'at' answers. -/
def dgI (ds : List Nat) (i : Int) : Nat := if i < 0 then 0 else dig ds i.toNat

theorem refAt (v : Value) (ds : List Nat) (i : Int) (w : World) (h : Ints w v ds) : Calls Tryz.prog 158 #[v, .int .i64 i] w fun e w' => e = .returned (.int .i64 (dgI ds i)) ∧ w = w' := by
  unfold dgI
  by_cases h0 : i < 0
  · rw [if_pos h0]
    rcases h with ⟨rfl, rfl⟩ | ⟨b, off, cap, rfl, hc, hty⟩
    · go_enter Tryz.func158, Tryz.ntmps158
      go_wp2
      go_ret
      exact ⟨rfl, rfl⟩
    · clear hc
      go_enter Tryz.func158, Tryz.ntmps158
      go_wp2
      go_ret
      exact ⟨rfl, rfl⟩
  · rw [if_neg h0]
    obtain ⟨k, rfl⟩ := Int.eq_ofNat_of_zero_le (Int.not_lt.1 h0)
    rw [show ((k : Int)).toNat = k by omega]
    rcases h with ⟨rfl, rfl⟩ | ⟨b, off, cap, rfl, hc, hty⟩
    · rw [dig_out (by simp)]
      have hk : (k : Int) ≥ 0 := by omega
      go_enter Tryz.func158, Tryz.ntmps158
      go_wp2
      go_ret
      exact ⟨rfl, rfl⟩
    · by_cases hl : (ds.length : Int) ≤ k
      · rw [dig_out (by omega)]
        clear hc
        generalize ds.length = n at *
        go_enter Tryz.func158, Tryz.ntmps158
        go_wp2
        go_ret
        exact ⟨rfl, rfl⟩
      · have c1 := hc k (by omega)
        clear hc
        generalize dig ds k = x at *
        generalize ds.length = n at *
        go_enter Tryz.func158, Tryz.ntmps158
        go_wp2
        go_ret
        exact ⟨rfl, rfl⟩
end Go.Proofs.YtanbgdhmfjgihaaGreatDoor

/- The document's own digits: all noughts, which is greater. -/
namespace Go.Proofs.YtanbgdhmfjgihaaGreatDoor
open Go.RowKit

theorem val10_zero (ds : List Nat) : val10 ds = 0 ↔ ∀ j, j < ds.length → dig ds j = 0 := by
  unfold val10
  generalize dig ds = f
  generalize ds.length = n
  induction n with
  | zero => simp [vT]
  | succ n ih =>
    show vT n f + f n * 10 ^ n = 0 ↔ _
    have hp : 0 < 10 ^ n := Nat.pow_pos (show 0 < 10 by decide)
    constructor
    · intro h j hj
      have h1 : vT n f = 0 := by omega
      have h2 : f n * 10 ^ n = 0 := by omega
      rcases Nat.lt_or_ge j n with h3 | h3
      · exact ih.1 h1 j h3
      · obtain rfl : j = n := by omega
        rcases Nat.mul_eq_zero.1 h2 with h4 | h4
        · exact h4
        · omega
    · intro h
      rw [ih.2 (fun j hj => h j (by omega)), h n (by omega)]; simp

set_option maxHeartbeats 800000 in
theorem refZero (v : Value) (ds : List Nat) (w : World) (h : Ints w v ds) (hn : ds.length ≤ 9223372036854775807) (d : Bool) (hd : d = decide (val10 ds = 0)) : Calls Tryz.prog 97 #[v] w fun e w' => e = .returned (.bool d) ∧ w = w' := by
  rcases h with ⟨rfl, rfl⟩ | ⟨b, off, cap, rfl, hc, hty⟩
  · obtain rfl : d = true := by rw [hd]; rfl
    clear hd
    go_enter Tryz.func97, Tryz.ntmps97
    go_wp2_with fail
    go_loopg [3] 0 (fun gg s3 wr => gg = 0 ∧ s3 = .int .i64 0 ∧ wr = w)
    case atStart => exact ⟨rfl, rfl, rfl⟩
    case round =>
      obtain ⟨_, rfl, rfl⟩ := hrel
      go_wp2
      go_ret
      exact ⟨rfl, rfl⟩
  · have hz := val10_zero ds
    have HZ := Lib.hid hz
    have HD := Lib.hid hd
    clear hz hd
    go_enter Tryz.func97, Tryz.ntmps97
    go_wp2_with fail
    go_loopg [3] ds.length (fun gg s3 wr => ∃ i : Nat, i + gg = ds.length ∧ s3 = .int .i64 i ∧ wr = w ∧ Aside (∀ j, j < i → dig ds j = 0))
    case atStart => exact ⟨0, by omega, rfl, rfl, fun j hj => absurd hj (Nat.not_lt_zero j)⟩
    case round =>
      obtain ⟨i, hi, rfl, rfl, hall⟩ := hrel
      have HA := Lib.hid hall.out
      clear hall
      by_cases hlt : (i : Int) < ds.length
      · have c1 := hc i (by omega)
        by_cases hx : dig ds i = 0
        · rw [hx] at c1
          have hall2 : ∀ j, j < i + 1 → dig ds j = 0 := fun j hj => by
            rcases Nat.lt_or_ge j i with h3 | h3
            · exact HA.out j h3
            · rw [show j = i by omega]; exact hx
          have HA2 := Lib.hid hall2
          clear hall2 HA hc hx
          generalize ds.length = n at *
          go_wp2_with fail
          go_roundg (gk - 1)
          case measure => omega
          case rel => exact ⟨i + 1, by omega, by go_num, rfl, HA2.out⟩
        · obtain rfl : d = false := by
            rw [HD.out]
            have := mt HZ.out.1 (fun h => hx (h i (by omega)))
            simp [this]
          have hx1 : ¬ (dig ds i : Int) = 0 := by omega
          clear hc HA hx HD HZ
          generalize dig ds i = x at *
          generalize ds.length = n at *
          go_wp2_with fail
          go_ret
          exact ⟨rfl, rfl⟩
      · obtain rfl : d = true := by
          rw [HD.out]
          have := HZ.out.2 (fun j hj => HA.out j (by omega))
          simp [this]
        clear hc HA HD HZ
        generalize ds.length = n at *
        go_wp2_with fail
        go_ret
        exact ⟨rfl, rfl⟩
end Go.Proofs.YtanbgdhmfjgihaaGreatDoor

/- The document's own digits: which is greater. -/
namespace Go.Proofs.YtanbgdhmfjgihaaGreatDoor
open Go.RowKit

/-- The walk down stands at digit i: above it all are alike. -/
def Alike (xs ys : List Nat) (i : Int) : Prop := ∀ j : Nat, i < j → dig xs j = dig ys j
theorem dgI_nat (ds : List Nat) (k : Nat) : dgI ds k = dig ds k := by unfold dgI; rw [if_neg (by omega)]; congr 1
theorem alike_eq {xs ys : List Nat} {i : Int} (h : Alike xs ys i) (hi : i < 0) : cmpZ (val10 xs) (val10 ys) = 0 := by
  rw [cmpZ_zero]
  have e : vT (xs.length + ys.length) (dig xs) = vT (xs.length + ys.length) (dig ys) := vT_eq _ _ _ (fun j _ => h j (by omega))
  rw [val10_pad xs (by omega), val10_pad ys (by omega)] at e
  rw [e]
theorem alike_lt {xs ys : List Nat} {k : Nat} (hx : Small xs) (h : Alike xs ys k) (hk : dig xs k < dig ys k) : cmpZ (val10 xs) (val10 ys) = -1 := by
  have e := vT_cmp (dig xs) (dig ys) hx k hk (xs.length + ys.length + k + 1) (by omega) (fun j a _ => h j (by omega))
  rw [val10_pad xs (by omega), val10_pad ys (by omega)] at e
  unfold cmpZ; rw [if_pos (by omega)]
theorem alike_gt {xs ys : List Nat} {k : Nat} (hy : Small ys) (h : Alike xs ys k) (hk : dig ys k < dig xs k) : cmpZ (val10 xs) (val10 ys) = 1 := by
  have := alike_lt (xs := ys) (ys := xs) hy (fun j a => (h j a).symm) hk
  rw [cmpZ_swap] at this
  omega

theorem refAtB (v : Value) (ds : List Nat) (k : Nat) (x : Nat) (w : World) (h : Ints w v ds) (hx : Hid (x = dig ds k)) : Calls Tryz.prog 158 #[v, .int .i64 k] w fun e w' => e = .returned (.int .i64 x) ∧ w = w' :=
  (refAt v ds k w h).mono fun _ _ ⟨h1, h2⟩ => ⟨by rw [h1, dgI_nat, hx.out], h2⟩
theorem Ints.form {w : World} {v : Value} {ds : List Nat} (h : Ints w v ds) : ∃ p cap, v = .slice p ds.length cap := by
  rcases h with ⟨rfl, rfl⟩ | ⟨b, off, cap, rfl, _, _⟩
  · exact ⟨_, _, rfl⟩
  · exact ⟨_, _, rfl⟩

set_option maxHeartbeats 1600000 in
theorem refCompare (u v : Value) (xs ys : List Nat) (w : World) (hu : Ints w u xs) (hv : Ints w v ys) (hx : Small xs) (hy : Small ys) (lx : xs.length ≤ 4611686018427387903) (ly : ys.length ≤ 4611686018427387903) (r : Int) (hr : r = cmpZ (val10 xs) (val10 ys)) :
    Calls Tryz.prog 123 #[u, v] w fun e w' => e = .returned (.int .i64 r) ∧ w = w' := by
  obtain ⟨p, cap, eu⟩ := hu.form
  obtain ⟨p2, cap2, ev⟩ := hv.form
  have HU := Lib.hid hu
  have HV := Lib.hid hv
  have HR := Lib.hid hr
  have HX := Lib.hid hx
  have HY := Lib.hid hy
  clear hu hv hr hx hy
  obtain ⟨n, hn⟩ : ∃ n, n = xs.length := ⟨_, rfl⟩
  obtain ⟨m, hm⟩ : ∃ m, m = ys.length := ⟨_, rfl⟩
  rw [← hn] at eu lx
  rw [← hm] at ev ly
  subst eu
  subst ev
  have HN := Lib.hid (And.intro hn hm)
  clear hn hm
  go_enter Tryz.func123, Tryz.ntmps123
  go_wp2_with fail
  go_loopg [5] (n + m + 1) (fun gg s5 wr => ∃ i : Int, i + 1 = gg ∧ i ≤ n + m ∧ s5 = .int .i64 i ∧ wr = w ∧ Aside (Alike xs ys i))
  case atStart => exact ⟨(n : Int) + m, by omega, by omega, by go_num, rfl, fun j hj => by rw [dig_out (by have := HN.out; omega), dig_out (by have := HN.out; omega)]⟩
  case round =>
    obtain ⟨i, hi, hb, rfl, rfl, hall⟩ := hrel
    have HA := Lib.hid hall.out
    clear hall
    by_cases h0 : i ≥ 0
    · obtain ⟨k, rfl⟩ := Int.eq_ofNat_of_zero_le h0
      obtain ⟨x, hx⟩ : ∃ x, x = dig xs k := ⟨_, rfl⟩
      obtain ⟨y, hy⟩ : ∃ y, y = dig ys k := ⟨_, rfl⟩
      have K1 := Lib.hid hx
      have K2 := Lib.hid hy
      rcases Nat.lt_trichotomy x y with h | h | h
      · obtain rfl : r = -1 := by rw [HR.out, alike_lt HX.out HA.out (by rw [← hx, ← hy]; exact h)]
        have h1 : ((x : Int) == (y : Int)) = false := by simp; omega
        have h2 : (x : Int) < y := by omega
        clear hx hy h HA HR
        go_wp2_with (first
          | (go_at_call 158; (with_reducible refine (refAtB _ xs k x _ HU.out K1).mono ?_); rintro e w' ⟨rfl, rfl⟩)
          | (go_at_call 158; (with_reducible refine (refAtB _ ys k y _ HV.out K2).mono ?_); rintro e w' ⟨rfl, rfl⟩))
        go_ret
        exact ⟨rfl, rfl⟩
      · have hall2 : Alike xs ys ((k : Int) - 1) := fun j hj => by
          by_cases e : j = k
          · rw [e, ← hx, ← hy, h]
          · exact HA.out j (by omega)
        have HA2 := Lib.hid hall2
        subst h
        clear hx hy hall2 HA
        go_wp2_with (first
          | (go_at_call 158; (with_reducible refine (refAtB _ xs k x _ HU.out K1).mono ?_); rintro e w' ⟨rfl, rfl⟩)
          | (go_at_call 158; (with_reducible refine (refAtB _ ys k x _ HV.out K2).mono ?_); rintro e w' ⟨rfl, rfl⟩))
        go_roundg (gk - 1)
        case measure => omega
        case rel => exact ⟨(k : Int) - 1, by omega, by omega, by go_num, rfl, HA2.out⟩
      · obtain rfl : r = 1 := by rw [HR.out, alike_gt HY.out HA.out (by rw [← hx, ← hy]; exact h)]
        have h1 : ((x : Int) == (y : Int)) = false := by simp; omega
        have h2 : ¬ (x : Int) < y := by omega
        clear hx hy h HA HR
        go_wp2_with (first
          | (go_at_call 158; (with_reducible refine (refAtB _ xs k x _ HU.out K1).mono ?_); rintro e w' ⟨rfl, rfl⟩)
          | (go_at_call 158; (with_reducible refine (refAtB _ ys k y _ HV.out K2).mono ?_); rintro e w' ⟨rfl, rfl⟩))
        go_ret
        exact ⟨rfl, rfl⟩
    · obtain rfl : r = 0 := by rw [HR.out, alike_eq HA.out (by omega)]
      clear HA HR
      go_wp2_with fail
      go_ret
      exact ⟨rfl, rfl⟩
end Go.Proofs.YtanbgdhmfjgihaaGreatDoor

/- The document's own digits: added. -/
namespace Go.Proofs.YtanbgdhmfjgihaaGreatDoor
open Go.RowKit

theorem info3 : (Tryz.prog.info? 3).map (fun i => (i.zero, i.size, i.bytes)) = some (some (.int .i64 0), 1, 8) := by kernel_rfl

/-- Digits as cells. -/
def cellsOfDigs (ds : List Nat) : List Value := ds.map fun (d : Nat) => Value.int .i64 (d : Int)
theorem cellsOfDigs_len (ds : List Nat) : (cellsOfDigs ds).length = ds.length := by simp [cellsOfDigs]
theorem dig_app_lt {ds : List Nat} {d j : Nat} (h : j < ds.length) : dig (ds ++ [d]) j = dig ds j := by
  simp [dig, List.getD, List.getElem?_append_left h]
theorem dig_app_eq (ds : List Nat) (d : Nat) : dig (ds ++ [d]) ds.length = d := by
  simp [dig, List.getD]
theorem small_app {ds : List Nat} {d : Nat} (h : Small ds) (hd : d ≤ 9) : Small (ds ++ [d]) := by
  intro j
  rcases Nat.lt_trichotomy j ds.length with k | k | k
  · rw [dig_app_lt k]; exact h j
  · rw [k, dig_app_eq]; exact hd
  · rw [dig_out (by simp; omega)]; omega
theorem vT_app (ds : List Nat) (d : Nat) : vT (ds.length + 1) (dig (ds ++ [d])) = vT ds.length (dig ds) + d * 10 ^ ds.length := by
  show vT ds.length (dig (ds ++ [d])) + dig (ds ++ [d]) ds.length * 10 ^ ds.length = _
  rw [vT_eq (dig (ds ++ [d])) (dig ds) ds.length (fun j hj => dig_app_lt hj), dig_app_eq]

theorem ints_of_owns {w : World} {base n : Nat} {v : Value} {ds : List Nat} (h : w.ownsRow base 3 1 v n (cellsOfDigs ds)) (hn : n = ds.length) : Ints w v ds := by
  subst hn
  rcases h.2 with ⟨e, h0⟩ | ⟨g, cap, cur, e, _, hk, _⟩
  · exact .inl ⟨e, List.length_eq_zero_iff.1 h0⟩
  · refine .inr ⟨g, 0, cap, e, fun i hi => ?_, cur, hk⟩
    subst e
    have := h.cellAt i (by omega)
    rw [Nat.zero_add, this]
    unfold cellsOfDigs dig
    rw [List.getElem?_map, List.getElem?_eq_getElem hi]
    simp [List.getD, hi]

/-- How far the sum has come. -/
structure Added (xs ys : List Nat) (i c : Nat) (zs : List Nat) : Prop where
  len : zs.length = i
  small : Small zs
  car : c ≤ 1
  val : vT i (dig zs) + c * 10 ^ i = vT i (dig xs) + vT i (dig ys)
  done : xs.length < i → ys.length < i → c = 0
theorem Added.start (xs ys : List Nat) : Added xs ys 0 0 [] := ⟨rfl, fun j => by simp [dig], by omega, rfl, fun h => absurd h (by omega)⟩
theorem Added.step {xs ys zs : List Nat} {i c n : Nat} (h : Added xs ys i c zs) (hx : Small xs) (hy : Small ys) (hn : n = dig xs i + dig ys i + c) : Added xs ys (i + 1) (n / 10) (zs ++ [n % 10]) := by
  have h1 := hx i
  have h2 := hy i
  have h3 := h.car
  refine ⟨by simp [h.len], small_app h.small (by omega), by omega, ?_, ?_⟩
  · have e := vT_app zs (n % 10)
    rw [h.len] at e
    rw [e]
    show _ = (vT i (dig xs) + dig xs i * 10 ^ i) + (vT i (dig ys) + dig ys i * 10 ^ i)
    have v := h.val
    rw [Nat.pow_succ]
    have e2 : n / 10 * (10 ^ i * 10) = (n / 10 * 10) * 10 ^ i := by rw [Nat.mul_comm (10 ^ i) 10, Nat.mul_assoc]
    have e3 : (n % 10) * 10 ^ i + (n / 10 * 10) * 10 ^ i = n * 10 ^ i := by rw [← Nat.add_mul]; congr 1; omega
    have e4 : n * 10 ^ i = dig xs i * 10 ^ i + dig ys i * 10 ^ i + c * 10 ^ i := by rw [hn, Nat.add_mul, Nat.add_mul]
    omega
  · intro a b
    have d1 := dig_out (ds := xs) (j := i) (by omega)
    have d2 := dig_out (ds := ys) (j := i) (by omega)
    omega
theorem Added.all {xs ys zs : List Nat} {i : Nat} (h : Added xs ys i 0 zs) (hx : xs.length ≤ i) (hy : ys.length ≤ i) : val10 zs = val10 xs + val10 ys := by
  have v := h.val
  rw [val10_pad xs hx, val10_pad ys hy] at v
  unfold val10
  rw [h.len]
  unfold val10 at v
  omega

set_option maxRecDepth 20000 in
set_option maxHeartbeats 1600000 in
theorem refAdd (u v : Value) (xs ys : List Nat) (w : World) (hu : Ints w u xs) (hv : Ints w v ys) (hx : Small xs) (hy : Small ys) (lx : xs.length ≤ 1000000000) (ly : ys.length ≤ 1000000000) :
    Calls Tryz.prog 122 #[u, v] w fun e w' => ∃ z zs, e = .returned z ∧ Ints w' z zs ∧ Small zs ∧ Aside (val10 zs = val10 xs + val10 ys) ∧ zs.length ≤ xs.length + ys.length + 1 ∧ Below w.heap.size w w' := by
  obtain ⟨i0, hi, hz0, hz1, hz2⟩ := info_parts info3
  obtain ⟨p, cap, eu⟩ := hu.form
  obtain ⟨p2, cap2, ev⟩ := hv.form
  have HU := Lib.hid hu
  have HV := Lib.hid hv
  have HX := Lib.hid hx
  have HY := Lib.hid hy
  clear hu hv hx hy
  obtain ⟨n, hn⟩ : ∃ n, n = xs.length := ⟨_, rfl⟩
  obtain ⟨m, hm⟩ : ∃ m, m = ys.length := ⟨_, rfl⟩
  rw [← hn] at eu lx
  rw [← hm] at ev ly
  subst eu
  subst ev
  have HN := Lib.hid (And.intro hn hm)
  rw [← hn, ← hm]
  clear hn hm
  go_enter Tryz.func122, Tryz.ntmps122
  go_wp2_with fail
  go_loopg [5, 6, 7] (n + m + 1) (fun gg s5 s6 s7 wr => ∃ (i c : Nat) (zs : List Nat), i + gg = n + m + 1 ∧ s6 = .int .i64 c ∧ s7 = .int .i64 i ∧ c ≤ 1 ∧ wr.ownsRow w.heap.size 3 1 s5 i (cellsOfDigs zs) ∧ Hid (Added xs ys i c zs) ∧ Below w.heap.size w wr)
  case atStart => exact ⟨0, 0, [], by omega, rfl, rfl, by omega, World.ownsRow_nil _ _ _ _, Lib.hid (Added.start xs ys), Below.refl _ _⟩
  case round =>
    obtain ⟨i, c, zs, hig, rfl, rfl, hc1, hown, HA, hbel⟩ := hrel
    have hsm := HA.out
    have hx9 := HX.out i
    have hy9 := HY.out i
    obtain ⟨x, hx⟩ : ∃ x, x = dig xs i := ⟨_, rfl⟩
    obtain ⟨y, hy⟩ : ∃ y, y = dig ys i := ⟨_, rfl⟩
    rw [← hx] at hx9
    rw [← hy] at hy9
    obtain ⟨t, ht⟩ : ∃ t, t = x + y + c := ⟨_, rfl⟩
    have ht1 : (x : Int) + y + c = t := by omega
    have ht2 : t ≤ 19 := by omega
    have HS : Hid (Added xs ys (i + 1) (t / 10) (zs ++ [t % 10])) := Lib.hid (hsm.step HX.out HY.out (by rw [ht, hx, hy]))
    have K1 := Lib.hid hx
    have K2 := Lib.hid hy
    have U1 := Lib.hid (HU.out.below hbel)
    have V1 := Lib.hid (HV.out.below hbel)
    have hdone : (c : Int) > 0 → i ≤ n + m := fun hc => by
      have := hsm.done
      have hN := HN.out
      omega
    clear hx hy ht hsm
    by_cases h1 : (i : Int) < n
    · go_wp2_with (first
        | (go_at_call 158; (with_reducible refine (refAtB _ xs i x _ U1.out K1).mono ?_); rintro e w' ⟨rfl, rfl⟩)
        | (go_at_call 158; (with_reducible refine (refAtB _ ys i y _ V1.out K2).mono ?_); rintro e w' ⟨rfl, rfl⟩)
        | (at_builtin; refine wpList_append_own _ rfl _ _ 73 rfl w.heap.size 3 i0 (.int .i64 0) 1 8 Tryz.underlying73 hi hz0 hz1 hz2 rfl (by decide) _ _ _ rfl (hown.alloc _) ⟨wr.heap.size, 0, none⟩ 1 1 [.int .i64 ((t : Int) % 10)] rfl rfl ?_ ?_ ?_ ?_ ?_ ?_))
      · intro j u hj
        match j, hj with
        | 0, hj => simp at hj; subst hj; simp [Addr.add]
      · intro u hu; simp at hu; subst hu; rfl
      · unfold maxLen; omega
      · omega
      · have := hbel.size; simp; omega
      · intro v' w1 hown' hgrow _
        have hb' : Below w.heap.size w w1 := (hbel.alloc hbel.size _).grown hgrow (by have := hbel.size; simp; omega) (fun k hk => (hown.lt k hk).1)
        have hown2 : w1.ownsRow w.heap.size 3 1 v' (i + 1) (cellsOfDigs (zs ++ [t % 10])) := by
          unfold cellsOfDigs at hown' ⊢
          simpa using hown'
        clear hown' hgrow hown
        go_wp2_with fail
        go_roundg (gk - 1)
        case measure => omega
        case rel => exact ⟨i + 1, t / 10, zs ++ [t % 10], by omega, by go_num, by go_num, by omega, hown2, HS, hb'⟩
    · by_cases h2 : (i : Int) < m
      · go_wp2_with (first
          | (go_at_call 158; (with_reducible refine (refAtB _ xs i x _ U1.out K1).mono ?_); rintro e w' ⟨rfl, rfl⟩)
          | (go_at_call 158; (with_reducible refine (refAtB _ ys i y _ V1.out K2).mono ?_); rintro e w' ⟨rfl, rfl⟩)
          | (at_builtin; refine wpList_append_own _ rfl _ _ 73 rfl w.heap.size 3 i0 (.int .i64 0) 1 8 Tryz.underlying73 hi hz0 hz1 hz2 rfl (by decide) _ _ _ rfl (hown.alloc _) ⟨wr.heap.size, 0, none⟩ 1 1 [.int .i64 ((t : Int) % 10)] rfl rfl ?_ ?_ ?_ ?_ ?_ ?_))
        · intro j u hj
          match j, hj with
          | 0, hj => simp at hj; subst hj; simp [Addr.add]
        · intro u hu; simp at hu; subst hu; rfl
        · unfold maxLen; omega
        · omega
        · have := hbel.size; simp; omega
        · intro v' w1 hown' hgrow _
          have hb' : Below w.heap.size w w1 := (hbel.alloc hbel.size _).grown hgrow (by have := hbel.size; simp; omega) (fun k hk => (hown.lt k hk).1)
          have hown2 : w1.ownsRow w.heap.size 3 1 v' (i + 1) (cellsOfDigs (zs ++ [t % 10])) := by
            unfold cellsOfDigs at hown' ⊢
            simpa using hown'
          clear hown' hgrow hown
          go_wp2_with fail
          go_roundg (gk - 1)
          case measure => omega
          case rel => exact ⟨i + 1, t / 10, zs ++ [t % 10], by omega, by go_num, by go_num, by omega, hown2, HS, hb'⟩
      · by_cases h3 : (c : Int) > 0
        · go_wp2_with (first
            | (go_at_call 158; (with_reducible refine (refAtB _ xs i x _ U1.out K1).mono ?_); rintro e w' ⟨rfl, rfl⟩)
            | (go_at_call 158; (with_reducible refine (refAtB _ ys i y _ V1.out K2).mono ?_); rintro e w' ⟨rfl, rfl⟩)
            | (at_builtin; refine wpList_append_own _ rfl _ _ 73 rfl w.heap.size 3 i0 (.int .i64 0) 1 8 Tryz.underlying73 hi hz0 hz1 hz2 rfl (by decide) _ _ _ rfl (hown.alloc _) ⟨wr.heap.size, 0, none⟩ 1 1 [.int .i64 ((t : Int) % 10)] rfl rfl ?_ ?_ ?_ ?_ ?_ ?_))
          · intro j u hj
            match j, hj with
            | 0, hj => simp at hj; subst hj; simp [Addr.add]
          · intro u hu; simp at hu; subst hu; rfl
          · unfold maxLen; omega
          · omega
          · have := hbel.size; simp; omega
          · intro v' w1 hown' hgrow _
            have hb' : Below w.heap.size w w1 := (hbel.alloc hbel.size _).grown hgrow (by have := hbel.size; simp; omega) (fun k hk => (hown.lt k hk).1)
            have hown2 : w1.ownsRow w.heap.size 3 1 v' (i + 1) (cellsOfDigs (zs ++ [t % 10])) := by
              unfold cellsOfDigs at hown' ⊢
              simpa using hown'
            clear hown' hgrow hown
            go_wp2_with fail
            go_roundg (gk - 1)
            case measure => omega
            case rel => exact ⟨i + 1, t / 10, zs ++ [t % 10], by omega, by go_num, by go_num, by omega, hown2, HS, hb'⟩
        · obtain rfl : c = 0 := by omega
          have hz := ints_of_owns hown (HA.out.len.symm)
          have hval : Aside (val10 zs = val10 xs + val10 ys) := HA.out.all (by have := HN.out; omega) (by have := HN.out; omega)
          have hlen : zs.length ≤ n + m + 1 := by have := HA.out.len; omega
          have hsmall := HA.out.small
          clear HS K1 K2 hown
          go_wp2_with fail
          go_ret
          exact ⟨_, rfl, zs, hz, hsmall, hval, hlen, hbel⟩
end Go.Proofs.YtanbgdhmfjgihaaGreatDoor

/- The document's own digits: taken away. -/
namespace Go.Proofs.YtanbgdhmfjgihaaGreatDoor
open Go.RowKit

theorem vT_low (f : Nat → Nat) (n : Nat) : ∀ m, n ≤ m → vT m f < 10 ^ n → vT m f = vT n f
  | 0, h, _ => by rw [Nat.le_zero.1 h]
  | m + 1, h, k => by
    by_cases e : n = m + 1
    · rw [e]
    · have h1 : 10 ^ n ≤ 10 ^ m := Nat.pow_le_pow_right (by omega) (by omega)
      have k' : vT m f + f m * 10 ^ m < 10 ^ n := k
      have h2 : f m = 0 := by
        rcases Nat.eq_zero_or_pos (f m) with z | z
        · exact z
        · have : 1 * 10 ^ m ≤ f m * 10 ^ m := Nat.mul_le_mul_right _ z
          omega
      have e2 : vT (m + 1) f = vT m f := by show vT m f + f m * 10 ^ m = _; rw [h2]; simp
      rw [e2]
      exact vT_low f n m (by omega) (by rw [e2] at k; exact k)

theorem ownsRow_drewN {w : World} {base : Nat} {e : TypeId} {size : Nat} {v : Value} {n : Nat} {xs : List Value} (h : w.ownsRow base e size v n xs) (k : Nat) : (w.drewN k).ownsRow base e size v n xs := h

/-- How far the difference has come. -/
structure Taken (xs ys : List Nat) (i c : Nat) (zs : List Nat) : Prop where
  len : zs.length = i
  small : Small zs
  car : c ≤ 1
  val : vT i (dig zs) + vT i (dig ys) = vT i (dig xs) + c * 10 ^ i
theorem Taken.start (xs ys : List Nat) : Taken xs ys 0 0 [] := ⟨rfl, fun j => by simp [dig], by omega, rfl⟩
theorem Taken.step {xs ys zs : List Nat} {i c d c' : Nat} (h : Taken xs ys i c zs) (hd : d ≤ 9) (hc : c' ≤ 1) (hn : dig xs i + 10 * c' = dig ys i + c + d) : Taken xs ys (i + 1) c' (zs ++ [d]) := by
  refine ⟨by simp [h.len], small_app h.small hd, hc, ?_⟩
  have e := vT_app zs d
  rw [h.len] at e
  rw [e]
  show _ + (vT i (dig ys) + dig ys i * 10 ^ i) = (vT i (dig xs) + dig xs i * 10 ^ i) + _
  have v := h.val
  have e2 : c' * 10 ^ (i + 1) = (10 * c') * 10 ^ i := by rw [Nat.pow_succ, Nat.mul_comm (10 ^ i) 10, ← Nat.mul_assoc, Nat.mul_comm c' 10]
  have e3 : dig xs i * 10 ^ i + (10 * c') * 10 ^ i = dig ys i * 10 ^ i + c * 10 ^ i + d * 10 ^ i := by rw [← Nat.add_mul, hn, Nat.add_mul, Nat.add_mul]
  omega
theorem Taken.all {xs ys zs : List Nat} {c : Nat} (h : Taken xs ys xs.length c zs) (hx : Small xs) (hy : Small ys) (hle : val10 ys ≤ val10 xs) : val10 zs + val10 ys = val10 xs := by
  have v := h.val
  have lx : vT xs.length (dig xs) < 10 ^ xs.length := vT_lt _ hx _
  have lz : vT xs.length (dig zs) < 10 ^ xs.length := vT_lt _ h.small _
  have ez : val10 zs = vT xs.length (dig zs) := by unfold val10; rw [h.len]
  have ex : val10 xs = vT xs.length (dig xs) := rfl
  have ey : val10 ys = vT xs.length (dig ys) := by
    have e := val10_pad ys (m := xs.length + ys.length) (by omega)
    rw [← e]
    exact vT_low _ _ _ (by omega) (by rw [e]; omega)
  have hc := h.car
  have h0 : c = 0 := by
    rcases Nat.eq_zero_or_pos c with z | z
    · exact z
    · obtain rfl : c = 1 := by omega
      rw [Nat.one_mul] at v
      omega
  subst h0
  rw [ez, ex, ey]
  omega

set_option maxRecDepth 20000 in
set_option maxHeartbeats 1600000 in
theorem refSub (u v : Value) (xs ys : List Nat) (w : World) (hu : Ints w u xs) (hv : Ints w v ys) (hx : Small xs) (hy : Small ys) (hle : val10 ys ≤ val10 xs) (lx : xs.length ≤ 1000000000) :
    Calls Tryz.prog 124 #[u, v] w fun e w' => ∃ z zs, e = .returned z ∧ Ints w' z zs ∧ Small zs ∧ Aside (val10 zs + val10 ys = val10 xs) ∧ zs.length = xs.length ∧ Below w.heap.size w w' := by
  obtain ⟨p2, cap2, ev⟩ := hv.form
  have HV := Lib.hid hv
  have HX := Lib.hid hx
  have HY := Lib.hid hy
  have HL := Lib.hid hle
  clear hv hx hy hle
  obtain ⟨m, hm⟩ : ∃ m, m = ys.length := ⟨_, rfl⟩
  rw [← hm] at ev
  subst ev
  clear hm
  rcases hu with ⟨rfl, rfl⟩ | ⟨b, off, cap, rfl, hc, hty⟩
  · go_enter Tryz.func124, Tryz.ntmps124
    go_wp2_with fail
    go_loopg [5, 6, 7] 0 (fun gg s5 s6 s7 wr => gg = 0 ∧ s5 = .slice none 0 0 ∧ s6 = .int .i64 0 ∧ s7 = .int .i64 0 ∧ wr = w)
    case atStart => exact ⟨rfl, rfl, rfl, rfl, rfl⟩
    case round =>
      obtain ⟨_, rfl, rfl, rfl, rfl⟩ := hrel
      go_wp2_with fail
      go_ret
      have h0 := HL.out
      have hv0 : val10 ys = 0 := Nat.le_zero.1 h0
      exact ⟨_, [], rfl, .inl ⟨rfl, rfl⟩, fun j => by simp [dig], by unfold Aside; rw [hv0]; rfl, rfl, Below.refl _ _⟩
  · obtain ⟨i0, hi, hz0, hz1, hz2⟩ := info_parts info3
    have HC := Lib.hid hc
    clear hc
    obtain ⟨n, hn⟩ : ∃ n, n = xs.length := ⟨_, rfl⟩
    have HN := Lib.hid hn
    rw [← hn] at lx ⊢
    clear hn
    go_enter Tryz.func124, Tryz.ntmps124
    go_wp2_with fail
    go_loopg [5, 6, 7] n (fun gg s5 s6 s7 wr => ∃ (i c : Nat) (zs : List Nat), i + gg = n ∧ s6 = .int .i64 c ∧ s7 = .int .i64 i ∧ c ≤ 1 ∧ wr.ownsRow w.heap.size 3 1 s5 i (cellsOfDigs zs) ∧ Hid (Taken xs ys i c zs) ∧ Below w.heap.size w wr)
    case atStart => exact ⟨0, 0, [], by omega, rfl, rfl, by omega, World.ownsRow_nil _ _ _ _, Lib.hid (Taken.start xs ys), Below.refl _ _⟩
    case round =>
      obtain ⟨i, c, zs, hig, rfl, rfl, hc1, hown, HA, hbel⟩ := hrel
      by_cases h1 : (i : Int) < n
      · have hx9 := HX.out i
        have hy9 := HY.out i
        have c0 := HC.out i (by have := HN.out; omega)
        have c1 : wr.cell? ⟨b, off + i, none⟩ = some (.int .i64 (dig xs i)) := (hbel.cell (p := ⟨b, off + i, none⟩) (World.block_lt_of_cell? w _ c0)).trans c0
        clear c0
        obtain ⟨x, hx⟩ : ∃ x, x = dig xs i := ⟨_, rfl⟩
        obtain ⟨y, hy⟩ : ∃ y, y = dig ys i := ⟨_, rfl⟩
        rw [← hx] at hx9 c1
        rw [← hy] at hy9
        have K2 := Lib.hid hy
        have V1 : Hid (∀ k, Ints (wr.drewN k) (.slice p2 m cap2) ys) := Lib.hid (fun k => (HV.out.below hbel).below (below_drewN (Below.refl _ _) k))
        have HS : ∀ d c' : Nat, d ≤ 9 → c' ≤ 1 → x + 10 * c' = y + c + d → Taken xs ys (i + 1) c' (zs ++ [d]) := fun d c' a b e => HA.out.step a b (by rw [← hx, ← hy]; exact e)
        have HS := Lib.hid HS
        clear hx hy
        go_wp2_with fail
        go_quiet ((go_at_call 158; exact Calls.quiet_of_same ((refAtB _ ys i y _ (V1.out _) K2).mono fun _ _ h => ⟨h.1, h.2.symm⟩)))
        have hown := ownsRow_drewN hown nq
        have hbel := below_drewN hbel nq
        generalize wr.drewN nq = wq at *
        clear c1 V1 K2
        by_cases hneg : (x : Int) - y - c < 0
        · obtain ⟨d, hd⟩ : ∃ d : Nat, d + y + c = x + 10 := ⟨x + 10 - y - c, by omega⟩
          have hd1 : (x : Int) - y - c + 10 = d := by omega
          have HD := Lib.hid (HS.out d 1 (by omega) (by omega) (by omega))
          clear HS
          go_wp2_with (at_builtin; refine wpList_append_own _ rfl _ _ 73 rfl w.heap.size 3 i0 (.int .i64 0) 1 8 Tryz.underlying73 hi hz0 hz1 hz2 rfl (by decide) _ _ _ rfl (hown.alloc _) ⟨wq.heap.size, 0, none⟩ 1 1 [.int .i64 ((d : Nat) : Int)] rfl rfl ?_ ?_ ?_ ?_ ?_ ?_)
          · intro j u hj
            match j, hj with
            | 0, hj => simp at hj; subst hj; simp [Addr.add]
          · intro u hu; simp at hu; subst hu; rfl
          · unfold maxLen; omega
          · omega
          · have := hbel.size; simp; omega
          · intro v' w1 hown' hgrow _
            have hb' : Below w.heap.size w w1 := (hbel.alloc hbel.size _).grown hgrow (by have := hbel.size; simp; omega) (fun k hk => (hown.lt k hk).1)
            have hown2 : w1.ownsRow w.heap.size 3 1 v' (i + 1) (cellsOfDigs (zs ++ [d])) := by
              unfold cellsOfDigs at hown' ⊢
              simpa using hown'
            clear hown' hgrow hown
            go_wp2_with fail
            go_roundg (gk - 1)
            case measure => omega
            case rel => exact ⟨i + 1, 1, zs ++ [d], by omega, rfl, by go_num, by omega, hown2, HD, hb'⟩
        · obtain ⟨d, hd⟩ : ∃ d : Nat, d + y + c = x := ⟨x - y - c, by omega⟩
          have hd1 : (x : Int) - y - c = d := by omega
          have HD := Lib.hid (HS.out d 0 (by omega) (by omega) (by omega))
          clear HS
          go_wp2_with (at_builtin; refine wpList_append_own _ rfl _ _ 73 rfl w.heap.size 3 i0 (.int .i64 0) 1 8 Tryz.underlying73 hi hz0 hz1 hz2 rfl (by decide) _ _ _ rfl (hown.alloc _) ⟨wq.heap.size, 0, none⟩ 1 1 [.int .i64 ((d : Nat) : Int)] rfl rfl ?_ ?_ ?_ ?_ ?_ ?_)
          · rfl
          · unfold maxLen; omega
          · omega
          · have := hbel.size; simp; omega
          · intro v' w1 hown' hgrow _
            have hb' : Below w.heap.size w w1 := (hbel.alloc hbel.size _).grown hgrow (by have := hbel.size; simp; omega) (fun k hk => (hown.lt k hk).1)
            have hown2 : w1.ownsRow w.heap.size 3 1 v' (i + 1) (cellsOfDigs (zs ++ [d])) := by
              unfold cellsOfDigs at hown' ⊢
              simpa using hown'
            clear hown' hgrow hown
            go_wp2_with fail
            go_roundg (gk - 1)
            case measure => omega
            case rel => exact ⟨i + 1, 0, zs ++ [d], by omega, rfl, by go_num, by omega, hown2, HD, hb'⟩
      · obtain rfl : i = n := by omega
        have hN := HN.out
        subst hN
        have hz := ints_of_owns hown (HA.out.len.symm)
        have hval : Aside (val10 zs + val10 ys = val10 xs) := HA.out.all HX.out HY.out HL.out
        have hlen := HA.out.len
        have hsmall := HA.out.small
        clear hown HC
        go_wp2_with fail
        go_ret
        exact ⟨_, rfl, zs, hz, hsmall, hval, hlen, hbel⟩
end Go.Proofs.YtanbgdhmfjgihaaGreatDoor

/- The document's own digits: noughts ahead. -/
namespace Go.Proofs.YtanbgdhmfjgihaaGreatDoor
open Go.RowKit

/-- A number as the document has it. -/
def numR (neg : Bool) (v : Value) (sc : Nat) : Value := .agg #[.bool neg, v, .int .i64 sc]
theorem dig_pad (k : Nat) (ds : List Nat) (j : Nat) : dig (List.replicate k 0 ++ ds) j = if j < k then 0 else dig ds (j - k) := by
  unfold dig
  simp only [List.getD]
  by_cases h : j < k
  · rw [if_pos h, List.getElem?_append_left (by simpa using h)]
    simp [h]
  · rw [if_neg h, List.getElem?_append_right (by simp; omega)]
    simp
theorem small_pad {k : Nat} {ds : List Nat} (h : Small ds) : Small (List.replicate k 0 ++ ds) := fun j => by
  rw [dig_pad]; split
  · omega
  · exact h _
theorem vT_shift (f g : Nat → Nat) (k : Nat) (h0 : ∀ j, j < k → f j = 0) (h : ∀ j, f (k + j) = g j) : ∀ n, vT (k + n) f = vT n g * 10 ^ k
  | 0 => by
    show vT k f = 0 * _
    rw [Nat.zero_mul]
    have : ∀ m, m ≤ k → vT m f = 0 := fun m => by
      induction m with
      | zero => intro _; rfl
      | succ m ih => intro hm; show vT m f + f m * 10 ^ m = 0; rw [ih (by omega), h0 m (by omega)]; simp
    exact this k (Nat.le_refl _)
  | n + 1 => by
    show vT (k + n) f + f (k + n) * 10 ^ (k + n) = (vT n g + g n * 10 ^ n) * 10 ^ k
    rw [vT_shift f g k h0 h n, h n, Nat.add_mul, Nat.pow_add, Nat.mul_comm (10 ^ k), Nat.mul_assoc]
theorem pad_len (k : Nat) (ds : List Nat) : (List.replicate k 0 ++ ds).length = k + ds.length := by simp
theorem val10_shift (k : Nat) (ds : List Nat) : val10 (List.replicate k 0 ++ ds) = val10 ds * 10 ^ k := by
  unfold val10
  rw [pad_len]
  exact vT_shift _ _ k (fun j hj => by rw [dig_pad, if_pos hj]) (fun j => by rw [dig_pad, if_neg (by omega)]; congr 1; omega) _

theorem made_digs (k : Nat) : (madeCells #[Value.int .i64 0] k).toList = cellsOfDigs (List.replicate k 0) := by
  unfold madeCells cellsOfDigs
  apply List.ext_getElem
  · simp
  · intro i h1 h2
    simp [Nat.mod_one]
theorem digs_app (a b : List Nat) : cellsOfDigs (a ++ b) = cellsOfDigs a ++ cellsOfDigs b := by simp [cellsOfDigs]

set_option maxRecDepth 20000 in
set_option maxHeartbeats 1600000 in
theorem refScaled (neg : Bool) (v : Value) (ds : List Nat) (sc scale : Nat) (w : World) (h : Ints w v ds) (hs : sc ≤ scale) (l1 : scale ≤ 1000000000) (l2 : ds.length ≤ 1000000000) :
    Calls Tryz.prog 121 #[numR neg v sc, .int .i64 scale] w fun e w' => ∃ z, e = .returned z ∧ Ints w' z (List.replicate (scale - sc) 0 ++ ds) ∧ Below w.heap.size w w' := by
  unfold numR
  obtain ⟨i0, hi, hz0, hz1, hz2⟩ := info_parts info3
  obtain ⟨k, hk⟩ : ∃ k, scale = sc + k := ⟨scale - sc, by omega⟩
  rw [show scale - sc = k by omega]
  have hk1 : (scale : Int) - sc = k := by omega
  clear hk
  have hb0 : Below w.heap.size w (w.alloc (.cells #[.bool neg, v, .int .i64 sc] 131)) := (Below.refl _ _).alloc (Nat.le_refl _) _
  rcases h with ⟨rfl, rfl⟩ | ⟨b, off, cap, rfl, hc, hty⟩
  · go_enter Tryz.func121, Tryz.ntmps121
    go_wp2_with (refine wpList_make_full _ rfl (.tmp 9) (.tmp 9) 73 rfl w.heap.size 3 i0 (.int .i64 0) 1 Tryz.underlying73 hi hz0 hz1 .i64 .i64 _ _ k rfl rfl rfl rfl ?_ ?_ ?_ ?_)
    · rw [hz2]; omega
    · unfold maxLen; omega
    · simp
    intro w1 hown hgrow
    have hb1 := hb0.grown hgrow (by simp) (fun _ h => by cases h)
    have hb' := (Below.refl (w.heap.size + 1) (w.alloc (.cells #[.bool neg, .slice none 0 0, .int .i64 sc] 131))).grown hgrow (by simp) (fun _ h => by cases h)
    have cD : w1.cell? ⟨w.heap.size, 1, none⟩ = some (.slice none 0 0) := (hb'.cell (p := ⟨w.heap.size, 1, none⟩) (Nat.lt_succ_self _)).trans (cell_of (heap_new _ _ rfl) _ rfl)
    clear hb'
    rw [made_digs] at hown
    go_wp2_with (refine wpList_append_own_none rfl (.tmp 11) (.tmp 13) 73 rfl w.heap.size 3 i0 1 Tryz.underlying73 hi _ k _ rfl hown rfl ?_)
    go_ret
    exact ⟨_, rfl, by rw [List.append_nil]; exact ints_of_owns hown (by simp), hb1⟩
  · have HC := Lib.hid hc
    clear hc
    go_enter Tryz.func121, Tryz.ntmps121
    go_wp2_with (refine wpList_make_full _ rfl (.tmp 9) (.tmp 9) 73 rfl w.heap.size 3 i0 (.int .i64 0) 1 Tryz.underlying73 hi hz0 hz1 .i64 .i64 _ _ k rfl rfl rfl rfl ?_ ?_ ?_ ?_)
    · rw [hz2]; omega
    · unfold maxLen; omega
    · simp
    intro w1 hown hgrow
    have hb1 := hb0.grown hgrow (by simp) (fun _ h => by cases h)
    have hb' := (Below.refl (w.heap.size + 1) (w.alloc (.cells #[.bool neg, .slice (some ⟨b, off, none⟩) ds.length cap, .int .i64 sc] 131))).grown hgrow (by simp) (fun _ h => by cases h)
    have cD : w1.cell? ⟨w.heap.size, 1, none⟩ = some (.slice (some ⟨b, off, none⟩) ds.length cap) := (hb'.cell (p := ⟨w.heap.size, 1, none⟩) (Nat.lt_succ_self _)).trans (cell_of (heap_new _ _ rfl) _ rfl)
    clear hb'
    rw [made_digs] at hown
    have hnews : ∀ j u, (cellsOfDigs ds)[j]? = some u → w1.cell? ((⟨b, off, none⟩ : Addr).add j) = some u := fun j u hj => by
      have hl : j < ds.length := by
        have := (List.getElem?_eq_some_iff.1 hj).1
        rwa [cellsOfDigs_len] at this
      have c0 := HC.out j hl
      have e : (⟨b, off, none⟩ : Addr).add j = ⟨b, off + j, none⟩ := by unfold Addr.add; split <;> simp_all
      rw [e, (hb1.cell (p := ⟨b, off + j, none⟩) (World.block_lt_of_cell? w _ c0)).trans c0, ← hj]
      unfold cellsOfDigs dig
      rw [List.getElem?_map, List.getElem?_eq_getElem hl]
      simp [List.getD, hl]
    have HW := Lib.hid hnews
    clear hnews
    go_wp2_with (at_builtin; refine wpList_append_own _ rfl (.tmp 11) (.tmp 13) 73 rfl w.heap.size 3 i0 (.int .i64 0) 1 8 Tryz.underlying73 hi hz0 hz1 hz2 rfl (by decide) _ k _ rfl hown ⟨b, off, none⟩ ds.length cap (cellsOfDigs ds) rfl (by simp [cellsOfDigs]) HW.out ?_ ?_ ?_ ?_ ?_)
    · intro u hu
      simp [cellsOfDigs] at hu
      obtain ⟨x, _, rfl⟩ := hu
      rfl
    · unfold maxLen; omega
    · omega
    · exact hb1.size
    · intro v' w2 hown' hgrow' _
      have hb2 : Below w.heap.size w w2 := hb1.grown hgrow' hb1.size (fun k hk => (hown.lt k hk).1)
      rw [← digs_app] at hown'
      clear hown hgrow
      go_wp2_with fail
      go_ret
      exact ⟨_, rfl, ints_of_owns hown' (by simp), hb2⟩
end Go.Proofs.YtanbgdhmfjgihaaGreatDoor

/- How the document reads a text: byte by byte, at most one point. No Go stands here. -/
namespace Go.Proofs.YtanbgdhmfjgihaaGreatDoor

theorem cut_pre (x t : List UInt8) (h : x.all isDig = true) : Lib.cut (x ++ t) [46] = (x ++ (Lib.cut t [46]).1, (Lib.cut t [46]).2.1, (Lib.cut t [46]).2.2) := by
  induction x with
  | nil => rfl
  | cons c r ih =>
    rw [List.all_cons, Bool.and_eq_true] at h
    have hc : c ≠ 46 := fun e => by rw [e] at h; exact absurd h.1 (by decide)
    rw [List.cons_append, cut_step c _ hc, ih h.2]
    rfl
/-- What 'parsed' asks of a text without its sign. -/
def okP (r : List UInt8) : Bool := digs (Lib.cut r [46]).1 && (!(Lib.cut r [46]).2.2 || digs (Lib.cut r [46]).2.1)
theorem splitP_ok (l : List UInt8) : splitP l = if okP (sgn l).2 then some ((sgn l).1, (Lib.cut (sgn l).2 [46]).1, (Lib.cut (sgn l).2 [46]).2.1) else none := rfl

/-- The bytes that have been looked at: digits, the point among them or not. -/
def Seen (t : List UInt8) (p : Int) : Prop :=
  (p = -1 ∧ t.all isDig = true) ∨ ∃ x y, t = x ++ 46 :: y ∧ p = x.length ∧ x.all isDig = true ∧ y.all isDig = true
theorem Seen.start : Seen [] (-1) := .inl ⟨rfl, rfl⟩
theorem Seen.digit {t : List UInt8} {p : Int} {c : UInt8} (h : Seen t p) (hc : isDig c = true) : Seen (t ++ [c]) p := by
  rcases h with ⟨e, h⟩ | ⟨x, y, e, hp, hx, hy⟩
  · exact .inl ⟨e, by rw [List.all_append, h]; simp [hc]⟩
  · exact .inr ⟨x, y ++ [c], by rw [e]; simp, hp, hx, by rw [List.all_append, hy]; simp [hc]⟩
theorem Seen.point {t : List UInt8} {p : Int} (h : Seen t p) (hp : p < 0) : Seen (t ++ [46]) t.length := by
  rcases h with ⟨_, h⟩ | ⟨x, y, _, e, _⟩
  · exact .inr ⟨t, [], rfl, rfl, h, rfl⟩
  · omega
theorem all_not {x : List UInt8} {c : UInt8} (hc : isDig c = false) (t : List UInt8) : digs (x ++ c :: t) = false := by
  unfold digs
  rw [List.all_append, List.all_cons, hc]
  simp
/-- A byte that is no digit, and no first point: the text has no form. -/
theorem Seen.bad {t u : List UInt8} {p : Int} {c : UInt8} (h : Seen t p) (hc : isDig c = false) (hp : c ≠ 46 ∨ 0 ≤ p) : okP (t ++ c :: u) = false := by
  unfold okP
  rcases h with ⟨e, h⟩ | ⟨x, y, e, hp', hx, hy⟩
  · have hn : c ≠ 46 := by rcases hp with k | k
                           · exact k
                           · omega
    rw [cut_pre t _ h, cut_step c u hn]
    simp only
    rw [all_not hc]
    rfl
  · rw [e, show x ++ 46 :: y ++ c :: u = x ++ 46 :: (y ++ c :: u) by simp, cut_dig x _ hx]
    simp only
    rw [all_not hc]
    simp
/-- At the end. -/
theorem Seen.all {t : List UInt8} {p : Int} (h : Seen t p) : okP t = decide (t.length ≠ 0 ∧ p ≠ 0 ∧ p ≠ (t.length : Int) - 1) := by
  unfold okP
  rcases h with ⟨e, h⟩ | ⟨x, y, e, hp', hx, hy⟩
  · have := cut_pre t [] h
    rw [List.append_nil, cut_nil, List.append_nil] at this
    rw [this, e]
    unfold digs
    cases t with
    | nil => rfl
    | cons c r => simp [h]
  · rw [e, cut_dig x y hx, hp']
    simp only
    unfold digs
    rw [hx, hy]
    cases x with
    | nil => simp
    | cons c r =>
      cases y with
      | nil => simp
      | cons d q => simp; omega
/-- The parts. -/
theorem Seen.parts {t : List UInt8} {p : Int} (h : Seen t p) : (t.filter (· != 46)) = (Lib.cut t [46]).1 ++ (Lib.cut t [46]).2.1 ∧ ((Lib.cut t [46]).2.1.length : Int) = if p < 0 then 0 else (t.length : Int) - 1 - p := by
  have keep : ∀ l : List UInt8, l.all isDig = true → l.filter (· != 46) = l := fun l hl => by
    rw [List.filter_eq_self]
    intro c hc
    have := List.all_eq_true.1 hl c hc
    simp only [bne_iff_ne, ne_eq]
    intro e; rw [e] at this; exact absurd this (by decide)
  rcases h with ⟨e, h⟩ | ⟨x, y, e, hp', hx, hy⟩
  · have := cut_pre t [] h
    rw [List.append_nil, cut_nil, List.append_nil] at this
    rw [this, e]
    simp [keep t h]
  · rw [e, cut_dig x y hx, hp']
    simp only [List.filter_append, keep x hx]
    rw [List.filter_cons_of_neg (by simp), keep y hy]
    refine ⟨rfl, ?_⟩
    rw [if_neg (by omega)]
    simp; omega

/-- A text's digits, the lowest first. -/
def revD (l : List UInt8) : List Nat := (l.map fun c => c.toNat - 48).reverse
theorem revD_cons (c : UInt8) (l : List UInt8) : revD (c :: l) = revD l ++ [c.toNat - 48] := by simp [revD]
theorem revD_len (l : List UInt8) : (revD l).length = l.length := by simp [revD]
theorem val10_rev (l : List UInt8) : val10 (revD l) = valD l := by
  induction l with
  | nil => rfl
  | cons c r ih =>
    have e := vT_app (revD r) (c.toNat - 48)
    rw [revD_cons]
    unfold val10
    rw [show (revD r ++ [c.toNat - 48]).length = (revD r).length + 1 by simp, e]
    show val10 (revD r) + _ = _
    rw [ih, revD_len]
    show _ = (c.toNat - 48) * 10 ^ r.length + valD r
    omega
theorem small_rev (l : List UInt8) (h : l.all isDig = true) : Small (revD l) := by
  induction l with
  | nil => intro j; simp [revD, dig]
  | cons c r ih =>
    rw [List.all_cons, Bool.and_eq_true] at h
    rw [revD_cons]
    exact small_app (ih h.2) (by have := (isDig_iff c).1 h.1; omega)
/-- What is parsed is what the text says, scaled by 10 ^ 54. -/
theorem num54_rev (a b : List UInt8) (hb : b.length ≤ 54) : num54 a b = val10 (revD (a ++ b)) * 10 ^ (54 - b.length) := by
  rw [val10_rev, valD_append, Nat.add_mul]
  unfold num54
  rw [Nat.mul_assoc, ← Nat.pow_add, show b.length + (54 - b.length) = 54 by omega]
end Go.Proofs.YtanbgdhmfjgihaaGreatDoor
