/- Texts of one kind, one behind the other: each says ahead of itself what it shows. -/
import Derived.Test.YtdnijfkiebpnpaaGreatDoorHaf
import Derived.Test.YtdnijfkiebpnpaaGreatDoorHag
import Derived.Deep.LoopGhost
import Derived.WalkMore
import Derived.Lib.ItoaMem
import Derived.Test.YtdnijfkiebpnpaaGreatDoorHae
import Derived.Deep.MidRow
/- The laws of decimals, as laws of whole numbers. No Go stands here. -/
namespace Go.Proofs.YtdnijfkiebpnpaaGreatDoor

/-- The product. -/
def dmul (l r : List UInt8) : Int := sv (dsign l != dsign r) (damt l * damt r / 10 ^ 54)
/-- The quotient, cut behind twenty digits. -/
def dquo (l r : List UInt8) : Int := sv (dsign l != dsign r) (damt l * 10 ^ 20 / damt r * 10 ^ 34)
/-- -1, 0 or 1. -/
def cmpZ (x y : Int) : Int := if x < y then -1 else if y < x then 1 else 0

theorem cmpZ_bound (x y : Int) : -1 ≤ cmpZ x y ∧ cmpZ x y ≤ 1 := by unfold cmpZ; split <;> (try split) <;> omega
theorem cmpZ_swap (x y : Int) : cmpZ y x = -cmpZ x y := by unfold cmpZ; split <;> split <;> (try split) <;> omega
theorem cmpZ_neg (x y : Int) : cmpZ (-x) (-y) = -cmpZ x y := by unfold cmpZ; split <;> split <;> (try split) <;> (try split) <;> omega
theorem cmpZ_zero (x y : Int) : cmpZ x y = 0 ↔ x = y := by unfold cmpZ; split <;> (try split) <;> omega

theorem natAbs_sv (n : Bool) (x : Nat) : (sv n x).natAbs = x := by unfold sv; cases n <;> simp
theorem dval_lt {l : List UInt8} (h : chk l = true) : (dval l).natAbs < 10 ^ 94 := by
  unfold dval; rw [natAbs_sv]; exact (chk_dec l h).2.1
theorem dval_inj {l r : List UInt8} (h : chk l = true) (h2 : chk r = true) : dval l = dval r ↔ l = r := by
  constructor
  · intro e
    have a := (chk_dec l h).1
    have b := (chk_dec r h2).1
    rw [e, b] at a
    exact (Option.some.inj a).symm
  · rintro rfl; rfl

theorem txt_neg {z : Int} {l : List UInt8} (h : txt z = some l) : ∃ r, txt (-z) = some r := by
  unfold txt wrN wr at *
  simp only [Int.natAbs_neg] at *
  split at h
  · cases h
  · rename_i hl
    rw [if_neg hl]
    exact ⟨_, rfl⟩

theorem dmul_comm (l r : List UInt8) : dmul l r = dmul r l := by
  unfold dmul
  rw [Nat.mul_comm, show (dsign l != dsign r) = (dsign r != dsign l) by cases dsign l <;> cases dsign r <;> rfl]

theorem exact34 {x : Nat} (h : x % 10 ^ 34 = 0) : x = x / 10 ^ 34 * 10 ^ 34 := by
  have := Nat.div_add_mod x (10 ^ 34)
  rw [h, Nat.add_zero, Nat.mul_comm] at this
  exact this.symm

theorem p68 : (10 : Nat) ^ 34 * 10 ^ 34 = 10 ^ 14 * 10 ^ 54 := by decide
theorem p34 : (10 : Nat) ^ 14 * 10 ^ 20 = 10 ^ 34 := by decide
theorem prod_exact {x y : Nat} (hx : x % 10 ^ 34 = 0) (hy : y % 10 ^ 34 = 0) : x * y / 10 ^ 54 = x / 10 ^ 34 * (y / 10 ^ 34) * 10 ^ 14 := by
  generalize hA : x / 10 ^ 34 = A
  generalize hB : y / 10 ^ 34 = B
  have e1 := exact34 hx
  have e2 := exact34 hy
  rw [hA] at e1
  rw [hB] at e2
  have e : x * y = A * B * 10 ^ 14 * 10 ^ 54 := by
    rw [e1, e2, Nat.mul_assoc (A * B), ← p68]
    generalize (10 : Nat) ^ 34 = T
    ac_rfl
  rw [e, Nat.mul_div_cancel _ (by decide)]

theorem dmul_lt {l r : List UInt8} (h : chk l = true) (h2 : chk r = true) : (dmul l r).natAbs < 10 ^ 144 := by
  unfold dmul
  rw [natAbs_sv, Nat.div_lt_iff_lt_mul (by decide)]
  have a := (chk_dec l h).2.1
  have b := (chk_dec r h2).2.1
  have h3 : damt l * damt r ≤ 10 ^ 94 * 10 ^ 94 := Nat.mul_le_mul (by omega) (by omega)
  have h4 : (10 : Nat) ^ 94 * 10 ^ 94 < 10 ^ 144 * 10 ^ 54 := by decide
  omega

/-- A product divided by what it was multiplied with. -/
theorem quo_mul {l r m : List UInt8} (h : chk l = true) (h2 : chk r = true) (h0 : damt r ≠ 0) (hm : txt (dmul l r) = some m) : dquo m r = dval l := by
  obtain ⟨_, dm⟩ := txt_dec _ (dmul_lt h h2) m hm
  obtain ⟨_, _, a2, a3, _⟩ := chk_dec l h
  obtain ⟨_, _, b2, b3, _⟩ := chk_dec r h2
  have e1 : damt m = damt l / 10 ^ 34 * (damt r / 10 ^ 34) * 10 ^ 14 := by
    have := congrArg Int.natAbs dm
    unfold dval dmul at this
    rwa [natAbs_sv, natAbs_sv, prod_exact a2 b2] at this
  have x1 := exact34 a2
  have x2 := exact34 b2
  generalize hA : damt l / 10 ^ 34 = A at *
  generalize hB : damt r / 10 ^ 34 = B at *
  have hB0 : 0 < B := by
    by_cases e : B = 0
    · rw [e, Nat.zero_mul] at x2; exact absurd x2 h0
    · omega
  have e2 : damt m * 10 ^ 20 / damt r = A := by
    rw [e1, x2, Nat.mul_assoc _ (10 ^ 14), p34, Nat.mul_assoc A B]
    exact Nat.mul_div_cancel _ (Nat.mul_pos hB0 (by decide))
  have hs : sv (dsign m) (damt m) = sv (dsign l != dsign r) (damt m) := by
    have := dm
    unfold dval dmul at this
    rw [prod_exact a2 b2, hA, hB, ← e1] at this
    exact this
  unfold dquo dval
  rw [e2, ← x1]
  by_cases hz : damt l = 0
  · rw [hz]; unfold sv; simp
  · have hm0 : damt m ≠ 0 := by
      rw [e1]
      have : 0 < A := by
        by_cases e : A = 0
        · rw [e, Nat.zero_mul] at x1; exact absurd x1 hz
        · omega
      have : 0 < A * B * 10 ^ 14 := Nat.mul_pos (Nat.mul_pos this hB0) (by decide)
      omega
    have hsm : dsign m = (dsign l != dsign r) := by
      unfold sv at hs
      cases h3 : dsign m <;> cases h4 : (dsign l != dsign r) <;> simp only [h3, h4, Bool.false_eq_true, if_false, if_true] at hs <;> first | rfl | omega
    rw [hsm]
    congr 1
    cases dsign l <;> cases dsign r <;> rfl

theorem dec_zero {l : List UInt8} (h : chk l = true) (h0 : damt l = 0) : l = [48, 46, 48] := by
  have a := (chk_dec l h).1
  have e : dval l = 0 := by unfold dval sv; rw [h0]; simp
  rw [e] at a
  have z : txt 0 = some [48, 46, 48] := by decide +kernel
  rw [z] at a
  exact (Option.some.inj a).symm

end Go.Proofs.YtdnijfkiebpnpaaGreatDoor

/- Div, Neg, Compare. -/
namespace Go.Proofs.YtdnijfkiebpnpaaGreatDoor
open Go.RowKit

theorem quo_text (l r : List UInt8) (h : chk l = true) (h2 : chk r = true) (h0 : damt r ≠ 0) :
    wr (dsign l != dsign r) (digsOf (damt l * 10 ^ 20 / damt r) 20 144) (digsOf (damt l * 10 ^ 20 / damt r) 0 20) = txt (dquo l r) := by
  obtain ⟨_, a1, _⟩ := chk_dec l h
  obtain ⟨_, _, b2, _⟩ := chk_dec r h2
  have hr : 10 ^ 34 ≤ damt r := by
    have := Nat.div_add_mod (damt r) (10 ^ 34)
    rw [b2] at this
    have hp : 1 ≤ damt r / 10 ^ 34 := by
      by_cases e : damt r / 10 ^ 34 = 0
      · rw [e] at this; omega
      · omega
    have : 10 ^ 34 * 1 ≤ 10 ^ 34 * (damt r / 10 ^ 34) := Nat.mul_le_mul_left _ hp
    omega
  obtain ⟨Q, hQ⟩ : ∃ Q, Q = damt l * 10 ^ 20 / damt r := ⟨_, rfl⟩
  unfold dquo
  rw [← hQ, ← wrN_sv]
  have hQlt : Q / 10 ^ 20 < 10 ^ 90 := by
    have h1 : Q ≤ damt l * 10 ^ 20 / 10 ^ 34 := by rw [hQ]; exact Nat.div_le_div_left hr (by decide)
    have h3 : damt l * 10 ^ 20 / 10 ^ 34 ≤ damt l * 10 ^ 20 := Nat.div_le_self _ _
    rw [Nat.div_lt_iff_lt_mul (by decide)]
    have h4 : damt l * 10 ^ 20 / 10 ^ 34 < 10 ^ 80 := by
      rw [Nat.div_lt_iff_lt_mul (by decide)]
      have : damt l * 10 ^ 20 < 10 ^ 94 * 10 ^ 20 := Nat.mul_lt_mul_of_pos_right a1 (by decide)
      rw [← Nat.pow_add] at this ⊢
      exact this
    have h5 : (10 : Nat) ^ 80 ≤ 10 ^ 90 * 10 ^ 20 := by decide
    omega
  have v1 : valD (digsOf Q 20 144) = Q / 10 ^ 20 := by
    rw [digsOf_val, Nat.mod_eq_of_lt]
    have : (10 : Nat) ^ 90 ≤ 10 ^ 144 := by decide
    omega
  rw [wr_wrN _ _ _ (digsOf_dig _ _ _) (digsOf_dig _ _ _) (by rw [v1]; exact hQlt) (by rw [digsOf_len]; omega), v1, digsOf_val, digsOf_len, Nat.pow_zero, Nat.div_one]
  have e : (10 : Nat) ^ 54 = 10 ^ 20 * 10 ^ 34 := by rw [← Nat.pow_add]
  have key : Q / 10 ^ 20 * 10 ^ 54 + Q % 10 ^ 20 * 10 ^ (54 - 20) = Q * 10 ^ 34 := by
    rw [show 54 - 20 = 34 by omega, e, ← Nat.mul_assoc, ← Nat.add_mul, Nat.mul_comm (Q / 10 ^ 20), Nat.div_add_mod]
  rw [key]

set_option maxRecDepth 20000 in
set_option maxHeartbeats 1600000 in
theorem cmpNo (s t : ByteArray) (w : World) (hG : Gd w) (hs : s.size < 4294967281) (ht : t.size < 4294967281) (h : chk s.data.toList = false ∨ chk t.data.toList = false) :
    Calls Tryz.prog 63 #[.string s, .string t] w fun e w' => e = .returned (.int .i64 0) ∧ Below w.heap.size w w' := by
  have hc : ∀ W, Gd W → Calls Tryz.prog 69 #[.string s, .string t] W fun e w' => e = .returned (.tuple #[.agg zero59, .agg zero59, .bool false]) ∧ Below W.heap.size W w' := fun W hW => by
    by_cases h1 : chk s.data.toList = true
    · exact bothNo2 s t W hW hs ht h1 (by rcases h with h | h; rw [h] at h1; cases h1; exact h)
    · exact bothNo1 s t W hW hs (by simpa using h1)
  have HC := Lib.hid hc
  clear hc h hs ht
  go_enter Tryz.func63, Tryz.ntmps63
  go_wp2_with (first
    | (go_at_call 69; (with_reducible refine (HC.out _ hG).mono ?_); rintro e w1 ⟨rfl, hb⟩; have l1 : Lies ((w1.alloc (.cells #[.bool false, .int .u32 0, .int .u32 0, .int .u32 0, .int .u32 0, .int .u32 0, .int .u32 0, .int .u32 0, .int .u32 0, .int .u32 0, .int .u32 0, .int .u32 0, .int .u32 0, .int .u32 0, .int .u32 0, .int .u32 0, .int .u32 0] 95)).alloc (.cells #[.bool false, .int .u32 0, .int .u32 0, .int .u32 0, .int .u32 0, .int .u32 0, .int .u32 0, .int .u32 0, .int .u32 0, .int .u32 0, .int .u32 0, .int .u32 0, .int .u32 0, .int .u32 0, .int .u32 0, .int .u32 0, .int .u32 0] 95)) w1.heap.size zero59 false (fun _ => 0) := (lies_zero _ rfl).alloc _; have l2 : Lies ((w1.alloc (.cells #[.bool false, .int .u32 0, .int .u32 0, .int .u32 0, .int .u32 0, .int .u32 0, .int .u32 0, .int .u32 0, .int .u32 0, .int .u32 0, .int .u32 0, .int .u32 0, .int .u32 0, .int .u32 0, .int .u32 0, .int .u32 0, .int .u32 0] 95)).alloc (.cells #[.bool false, .int .u32 0, .int .u32 0, .int .u32 0, .int .u32 0, .int .u32 0, .int .u32 0, .int .u32 0, .int .u32 0, .int .u32 0, .int .u32 0, .int .u32 0, .int .u32 0, .int .u32 0, .int .u32 0, .int .u32 0, .int .u32 0] 95)) (w1.heap.size + 1) zero59 false (fun _ => 0) := lies_zero _ (by simp); have hb1 : Below w.heap.size w ((w1.alloc (.cells #[.bool false, .int .u32 0, .int .u32 0, .int .u32 0, .int .u32 0, .int .u32 0, .int .u32 0, .int .u32 0, .int .u32 0, .int .u32 0, .int .u32 0, .int .u32 0, .int .u32 0, .int .u32 0, .int .u32 0, .int .u32 0, .int .u32 0] 95)).alloc (.cells #[.bool false, .int .u32 0, .int .u32 0, .int .u32 0, .int .u32 0, .int .u32 0, .int .u32 0, .int .u32 0, .int .u32 0, .int .u32 0, .int .u32 0, .int .u32 0, .int .u32 0, .int .u32 0, .int .u32 0, .int .u32 0, .int .u32 0] 95)) := (hb.alloc hb.size _).alloc (by have := hb.size; simp; omega) _; have hsz := hb.size)
    | ((with_reducible refine wpList_storeN (.tmp 5) (.tmp 12) w1.heap.size (by assumption) isNum_zero ?_ ?_ ?_ ?_ ?_); rfl; rfl; rfl; rfl; intro w2 ho p1; have p2 := l2.only ho (by omega); have hb2 := below_only hb1 ho hsz (Nat.le_of_lt (Nat.lt_of_le_of_lt hsz l1.lt)))
    | ((with_reducible refine wpList_storeN (.tmp 6) (.tmp 13) (w1.heap.size + 1) (by assumption) isNum_zero ?_ ?_ ?_ ?_ ?_); rfl; rfl; rfl; rfl; intro w3 ho3 q2; have q1 := p1.only ho3 (by omega); have hb3 := below_only hb2 ho3 (by omega) (Nat.le_of_lt (Nat.lt_of_le_of_lt hsz p1.lt))))
  go_ret
  exact ⟨rfl, hb3⟩

theorem cmpS_val (l r : List UInt8) (h : chk l = true) (h2 : chk r = true) : cmpS (dsign l) (damt l) (dsign r) (damt r) = cmpZ (dval l) (dval r) := by
  have a := (chk_dec l h).2.2.2.1
  have b := (chk_dec r h2).2.2.2.1
  unfold dval sv cmpS cmpZ cmpI
  generalize damt l = x at *
  generalize damt r = y at *
  cases h3 : dsign l <;> cases h4 : dsign r <;> simp only [h3, h4, Bool.false_eq_true, if_false, if_true, Bool.not_true, Bool.not_false, Bool.and_true, Bool.and_false, Bool.false_and, Bool.true_and, Bool.and_self, Int.ofNat_lt, Int.neg_lt_neg_iff] at *
  · have := b trivial
    rw [if_neg (by omega), if_pos (by omega)]
  · have := a trivial
    rw [if_pos (by omega)]

set_option maxRecDepth 20000 in
set_option maxHeartbeats 1600000 in
theorem cmpYes (s t : ByteArray) (w : World) (hG : Gd w) (hs : s.size < 4294967281) (ht : t.size < 4294967281) (h : chk s.data.toList = true) (h2 : chk t.data.toList = true) :
    Calls Tryz.prog 63 #[.string s, .string t] w fun e w' => e = .returned (.int .i64 (cmpZ (dval s.data.toList) (dval t.data.toList))) ∧ Below w.heap.size w w' := by
  have hc : ∀ W, Gd W → Calls Tryz.prog 69 #[.string s, .string t] W fun e w' => ∃ c d f g, e = .returned (.tuple #[.agg c, .agg d, .bool true]) ∧ IsNum c (dsign s.data.toList) f ∧ wval f = damt s.data.toList ∧
      IsNum d (dsign t.data.toList) g ∧ wval g = damt t.data.toList ∧ Below W.heap.size W w' := fun W hW => bothYes s t W hW hs ht h h2
  have HC := Lib.hid hc
  obtain ⟨r, hr⟩ : ∃ r, r = cmpZ (dval s.data.toList) (dval t.data.toList) := ⟨_, rfl⟩
  have hcm : ∀ (c d : Array Value) (f g : Nat → Nat) W, IsNum c (dsign s.data.toList) f → wval f = damt s.data.toList → IsNum d (dsign t.data.toList) g → wval g = damt t.data.toList → Calls Tryz.prog 70 #[.agg c, .agg d] W fun e w' => e = .returned (.int .i64 r) ∧ Below W.heap.size W w' := fun c d f g W hc e1 hd e2 => by
    have := cmpNum c d _ _ f g W hc hd
    rwa [e1, e2, cmpS_val _ _ h h2, ← hr] at this
  have HCM := Lib.hid hcm
  rw [← hr]
  clear hc hcm h h2 hs ht hr
  go_enter Tryz.func63, Tryz.ntmps63
  go_wp2_with (first
    | (go_at_call 69; (with_reducible refine (HC.out _ hG).mono ?_); rintro e w1 ⟨c, d, f, g, rfl, hn, hx, hm, hy, hb⟩; have HX := Lib.hid hx; have HY := Lib.hid hy; clear hx hy; have l1 : Lies ((w1.alloc (.cells #[.bool false, .int .u32 0, .int .u32 0, .int .u32 0, .int .u32 0, .int .u32 0, .int .u32 0, .int .u32 0, .int .u32 0, .int .u32 0, .int .u32 0, .int .u32 0, .int .u32 0, .int .u32 0, .int .u32 0, .int .u32 0, .int .u32 0] 95)).alloc (.cells #[.bool false, .int .u32 0, .int .u32 0, .int .u32 0, .int .u32 0, .int .u32 0, .int .u32 0, .int .u32 0, .int .u32 0, .int .u32 0, .int .u32 0, .int .u32 0, .int .u32 0, .int .u32 0, .int .u32 0, .int .u32 0, .int .u32 0] 95)) w1.heap.size zero59 false (fun _ => 0) := (lies_zero _ rfl).alloc _; have l2 : Lies ((w1.alloc (.cells #[.bool false, .int .u32 0, .int .u32 0, .int .u32 0, .int .u32 0, .int .u32 0, .int .u32 0, .int .u32 0, .int .u32 0, .int .u32 0, .int .u32 0, .int .u32 0, .int .u32 0, .int .u32 0, .int .u32 0, .int .u32 0, .int .u32 0] 95)).alloc (.cells #[.bool false, .int .u32 0, .int .u32 0, .int .u32 0, .int .u32 0, .int .u32 0, .int .u32 0, .int .u32 0, .int .u32 0, .int .u32 0, .int .u32 0, .int .u32 0, .int .u32 0, .int .u32 0, .int .u32 0, .int .u32 0, .int .u32 0] 95)) (w1.heap.size + 1) zero59 false (fun _ => 0) := lies_zero _ (by simp); have hb1 : Below w.heap.size w ((w1.alloc (.cells #[.bool false, .int .u32 0, .int .u32 0, .int .u32 0, .int .u32 0, .int .u32 0, .int .u32 0, .int .u32 0, .int .u32 0, .int .u32 0, .int .u32 0, .int .u32 0, .int .u32 0, .int .u32 0, .int .u32 0, .int .u32 0, .int .u32 0] 95)).alloc (.cells #[.bool false, .int .u32 0, .int .u32 0, .int .u32 0, .int .u32 0, .int .u32 0, .int .u32 0, .int .u32 0, .int .u32 0, .int .u32 0, .int .u32 0, .int .u32 0, .int .u32 0, .int .u32 0, .int .u32 0, .int .u32 0, .int .u32 0] 95)) := (hb.alloc hb.size _).alloc (by have := hb.size; simp; omega) _; have hsz := hb.size)
    | ((with_reducible refine wpList_storeN (.tmp 5) (.tmp 12) w1.heap.size (by assumption) hn ?_ ?_ ?_ ?_ ?_); rfl; rfl; rfl; rfl; intro w2 ho p1; have p2 := l2.only ho (by omega); have hb2 := below_only hb1 ho hsz (Nat.le_of_lt (Nat.lt_of_le_of_lt hsz l1.lt)))
    | ((with_reducible refine wpList_storeN (.tmp 6) (.tmp 13) (w1.heap.size + 1) (by assumption) hm ?_ ?_ ?_ ?_ ?_); rfl; rfl; rfl; rfl; intro w3 ho3 q2; have q1 := p1.only ho3 (by omega); have hb3 := below_only hb2 ho3 (by omega) (Nat.le_of_lt (Nat.lt_of_le_of_lt hsz p1.lt)))
    | ((with_reducible refine wpList_loadN (.tmp 5) w1.heap.size (by assumption) ?_ ?_ ?_ ?_); rfl; rfl; rfl)
    | ((with_reducible refine wpList_loadN (.tmp 6) (w1.heap.size + 1) (by assumption) ?_ ?_ ?_ ?_); rfl; rfl; rfl)
    | (go_at_call 70; (with_reducible refine (HCM.out c d f g _ hn HX.out hm HY.out).mono ?_); rintro e w4 ⟨rfl, hb4⟩; have hb5 := below_any hb3 hb4 hb3.size))
  go_ret
  exact ⟨rfl, hb5⟩

end Go.Proofs.YtdnijfkiebpnpaaGreatDoor

/- The product of two rows of words, whose words outside 3 .. 10 are noughts. No Go stands here. -/
namespace Go.Proofs.YtdnijfkiebpnpaaGreatDoor

/-- Only the words from 3 to 10 may be other than 0. -/
def Mid (f : Nat → Nat) : Prop := ∀ j, j < 3 ∨ 11 ≤ j → j < 16 → f j = 0

theorem vN_low (f : Nat → Nat) (h : Mid f) : vN 3 f = 0 := by
  simp only [vN, h 0 (by omega) (by omega), h 1 (by omega) (by omega), h 2 (by omega) (by omega)]
  simp
theorem vN_mid (f : Nat → Nat) (h : Mid f) : vN 11 f = wval f := by
  have := vN_above f (fun _ => 0) 11 16 (by omega) (fun j a b => h j (by omega) b)
  have e : ∀ n, vN n (fun _ => 0) = 0 := by intro n; induction n with
    | zero => rfl
    | succ n ih => simp [vN, ih]
  rw [e, e] at this
  unfold wval; omega

/-- The outer loop: the words below i of f have been multiplied. -/
structure TimesI (f g p : Nat → Nat) (i : Nat) : Prop where
  val : wval p * BASE ^ 6 = vN i f * wval g
  words : Words p
  high : ∀ j, i + 5 ≤ j → j < 16 → p j = 0
/-- The inner loop: word i of f has been multiplied with the words below j of g. -/
structure TimesJ (f g p : Nat → Nat) (i j cr : Nat) : Prop where
  val : wval p * BASE ^ 6 + cr * BASE ^ (i + j) = vN i f * wval g + f i * BASE ^ i * vN j g
  words : Words p
  high : ∀ k, i + 5 ≤ k → k < 16 → p k = 0
  carry : cr < BASE

theorem wval_zero : wval (fun _ => 0) = 0 := by
  have e : ∀ n, vN n (fun _ => 0) = 0 := by intro n; induction n with
    | zero => rfl
    | succ n ih => simp [vN, ih]
  exact e 16
theorem TimesI.zero {f g : Nat → Nat} (hf : Mid f) : TimesI f g (fun _ => 0) 3 :=
  ⟨by rw [vN_low f hf, wval_zero, Nat.zero_mul, Nat.zero_mul], fun _ _ => by decide, fun _ _ _ => rfl⟩
theorem TimesI.inner {f g p : Nat → Nat} {i : Nat} (H : TimesI f g p i) (hg : Mid g) : TimesJ f g p i 3 0 :=
  ⟨by rw [vN_low g hg, H.val, Nat.zero_mul, Nat.mul_zero], H.words, H.high, by decide⟩
theorem base_is : BASE = 1000000000 := rfl
theorem sum_lt {x y p c : Nat} (hx : x < BASE) (hy : y < BASE) (hp : p < BASE) (hc : c < BASE) : x * y + p + c < BASE * BASE := by
  rw [base_is] at *
  have h1 : x * y ≤ 999999999 * 999999999 := Nat.mul_le_mul (by omega) (by omega)
  omega
theorem TimesJ.step {f g p : Nat → Nat} {i j cr : Nat} (H : TimesJ f g p i j cr) (hf : Words f) (hg : Words g) (hi : i < 11) (hj : j < 11) (hi3 : 3 ≤ i) (hj3 : 3 ≤ j) :
    TimesJ f g (upd p (i + j - 6) ((f i * g j + p (i + j - 6) + cr) % BASE)) i (j + 1) ((f i * g j + p (i + j - 6) + cr) / BASE) := by
  have hs := sum_lt (hf i (by omega)) (hg j (by omega)) (H.words (i + j - 6) (by omega)) H.carry
  refine ⟨?_, H.words.upd (Nat.mod_lt _ (by decide)), ?_, by rw [Nat.div_lt_iff_lt_mul (by decide)]; exact hs⟩
  · have hu := wval_upd p (i + j - 6) ((f i * g j + p (i + j - 6) + cr) % BASE) (by omega)
    have hv := H.val
    have hd := Nat.div_add_mod (f i * g j + p (i + j - 6) + cr) BASE
    have e6 : BASE ^ (i + j) = BASE ^ (i + j - 6) * BASE ^ 6 := by rw [← Nat.pow_add]; congr 1; omega
    have e1 : BASE ^ (i + (j + 1)) = BASE * BASE ^ (i + j) := by rw [← Nat.add_assoc, Nat.pow_succ, Nat.mul_comm]
    have ej : BASE ^ i * BASE ^ j = BASE ^ (i + j) := by rw [← Nat.pow_add]
    generalize p (i + j - 6) = pa at *
    generalize (f i * g j + pa + cr) / BASE = q at *
    generalize (f i * g j + pa + cr) % BASE = r at *
    generalize wval (upd p (i + j - 6) r) = W' at *
    generalize wval p = W at *
    have hu6 : W' * BASE ^ 6 + pa * BASE ^ (i + j) = W * BASE ^ 6 + r * BASE ^ (i + j) := by
      rw [e6, ← Nat.mul_assoc, ← Nat.mul_assoc, ← Nat.add_mul, ← Nat.add_mul, hu]
    have hd6 : (BASE * q + r) * BASE ^ (i + j) = (f i * g j + pa + cr) * BASE ^ (i + j) := by rw [hd]
    have hq : q * BASE ^ (i + (j + 1)) = BASE * q * BASE ^ (i + j) := by rw [e1]; ac_rfl
    have hfg : f i * BASE ^ i * (g j * BASE ^ j) = f i * g j * BASE ^ (i + j) := by rw [← ej]; ac_rfl
    rw [hq]
    simp only [vN, Nat.mul_add, hfg]
    simp only [Nat.add_mul] at hd6
    omega
  · intro k hk hk2
    rw [upd_other _ _ (by omega)]
    exact H.high k hk hk2
theorem TimesJ.outer {f g p : Nat → Nat} {i cr : Nat} (H : TimesJ f g p i 11 cr) (hg : Mid g) (hi : i < 11) : TimesI f g (upd p (i + 5) cr) (i + 1) := by
  refine ⟨?_, H.words.upd H.carry, ?_⟩
  · have hu := wval_upd p (i + 5) cr (by omega)
    rw [H.high (i + 5) (by omega) (by omega), Nat.zero_mul, Nat.add_zero] at hu
    have hv := H.val
    rw [vN_mid g hg] at hv
    have e6 : BASE ^ (i + 11) = BASE ^ (i + 5) * BASE ^ 6 := by rw [← Nat.pow_add]
    rw [hu, Nat.add_mul, Nat.mul_assoc, ← e6, hv]
    simp only [vN, Nat.add_mul]
  · intro k hk hk2
    rw [upd_other _ _ (by omega)]
    exact H.high k (by omega) hk2
theorem TimesI.done {f g p : Nat → Nat} (H : TimesI f g p 11) (hf : Mid f) : wval p * 10 ^ 54 = wval f * wval g := by
  have := H.val
  rw [vN_mid f hf, base_pow] at this
  exact this

/-- An amount that has twenty digits behind the point and forty ahead lies in the middle. -/
theorem mid_of (f : Nat → Nat) (hf : Words f) (h1 : wval f < 10 ^ 94) (h2 : wval f % 10 ^ 34 = 0) : Mid f := by
  intro j hj hj2
  rw [limb_val f hf j hj2, base_pow]
  rcases hj with hj | hj
  · have e : wval f = wval f / 10 ^ 34 * 10 ^ 34 := by
      have := Nat.div_add_mod (wval f) (10 ^ 34)
      rw [h2, Nat.add_zero, Nat.mul_comm] at this
      exact this.symm
    have e2 : (10 : Nat) ^ 34 = 10 ^ (34 - 9 * j - 9) * BASE * 10 ^ (9 * j) := by
      have : BASE = 10 ^ 9 := rfl
      rw [this, ← Nat.pow_add, ← Nat.pow_add]; congr 1; omega
    rw [e, e2, ← Nat.mul_assoc, ← Nat.mul_assoc, Nat.mul_div_cancel _ (Nat.pow_pos (by omega)), Nat.mul_mod_left]
  · have : 10 ^ 94 ≤ 10 ^ (9 * j) := Nat.pow_le_pow_right (by omega) (by omega)
    rw [Nat.div_eq_of_lt (by omega), Nat.zero_mod]

end Go.Proofs.YtdnijfkiebpnpaaGreatDoor

/- times. -/
namespace Go.Proofs.YtdnijfkiebpnpaaGreatDoor
open Go.RowKit

theorem Lies.drewN {w : World} {g : Nat} {c : Array Value} {n : Bool} {f : Nat → Nat} (h : Lies w g c n f) (k : Nat) : Lies (w.drewN k) g c n f := h

/-- What times leaves. -/
def ProdPost (sg : Bool) (f g : Nat → Nat) (w : World) (e : Ending) (w' : World) : Prop := ∃ c' h, e = .returned (.agg c') ∧ IsNum c' sg h ∧ wval h * 10 ^ 54 = wval f * wval g ∧ Below w.heap.size w w'

theorem Lies.set {w : World} {g : Nat} {c : Array Value} {n : Bool} {f : Nat → Nat} (h : Lies w g c n f) {k v : Nat} (hk : k < 16) (hv : v < BASE) :
    Lies (w.setCell ⟨g, 1 + k, none⟩ (.int .u32 v)) g (c.setIfInBounds (1 + k) (.int .u32 v)) n (upd f k v) := ⟨heap_set h.1 _ _, h.2.set hk hv⟩

end Go.Proofs.YtdnijfkiebpnpaaGreatDoor

/- Mul, Neg, OfInt. -/
namespace Go.Proofs.YtdnijfkiebpnpaaGreatDoor
open Go.RowKit

/-- The table of powers of ten is as the library's text lays it. -/
def Tab (w : World) : Prop := Lib.TabIs Tryz.prog w "internal/strconv.uint64pow10" .u64 Lib.pow10Tab

theorem var_below {P : Program} {w w' : World} {name : String} {cs : Array Value} (h : w.var? P name = some cs) (k : Below w.heap.size w w') : w'.var? P name = some cs := by
  unfold World.var? at *
  cases hg : P.globalNamed name with
  | none => rw [hg] at h; cases h
  | some g =>
    rw [hg] at h
    simp only [Option.bind_some] at h ⊢
    have hlt : g < w.heap.size := by
      by_cases e : g < w.heap.size
      · exact e
      · rw [Array.getElem?_eq_none (by omega)] at h; cases h
    rw [k.block g hlt]; exact h
theorem Tab.below {w w' : World} (h : Tab w) (k : Below w.heap.size w w') : Tab w' := by
  exact var_below h k

theorem ofIntAt (n : Int) (h0 : -9223372036854775808 ≤ n) (h1 : n ≤ 9223372036854775807) (w : World) (hT : Tab w) (X : ByteArray) (hX : X = bs (Lib.itoa n)) (hs : X.size ≤ 20) :
    Calls Tryz.prog 71 #[.int .i64 n] w fun e w' => e = .returned (.string (X ++ ⟨#[46, 48]⟩)) ∧ Below w.heap.size w w' := by
  have hc : ∀ W, Tab W → Calls Tryz.prog 80 #[.int .i64 n, .int .i64 10] W fun e w' => e = .returned (.string X) ∧ Below W.heap.size W w' := fun W hW => by
    refine (Tryz.strconv_FormatInt_10 n h0 h1 W hW).mono ?_
    rintro e w' ⟨rfl, k, os, rfl⟩
    refine ⟨by rw [hX], ?_⟩
    exact (below_drewN (Below.refl _ _) k).trans ⟨rfl, rfl, rfl, by simp [Sort.grow], fun i hi => by simp only [Sort.grow]; rw [Array.getElem?_append_left (by exact hi)]⟩
  have HC := Lib.hid hc
  clear hc hX
  go_enter Tryz.func71, Tryz.ntmps71
  go_wp2_with (go_at_call 80; (with_reducible refine (HC.out _ hT).mono ?_); rintro e w1 ⟨rfl, hb⟩)
  go_ret
  exact ⟨rfl, hb⟩

end Go.Proofs.YtdnijfkiebpnpaaGreatDoor

/- A whole number's text is a decimal, and says that number. No Go stands here. -/
namespace Go.Proofs.YtdnijfkiebpnpaaGreatDoor
open Go.RowKit

theorem trimL_none {l : List UInt8} (h : ∀ c r, l = c :: r → c ≠ 48) : Lib.trimLeftB l 48 = l := by
  cases l with
  | nil => rfl
  | cons c r =>
    unfold Lib.trimLeftB
    rw [List.dropWhile_cons, if_neg (by simpa using h c r rfl)]
theorem dec_all (u : Nat) : (Lib.decDigits u).all isDig = true ∧ valD (Lib.decDigits u) = u ∧ Lib.decDigits u ≠ [] ∧ (1 ≤ u → (Lib.decDigits u).headD 0 ≠ 48) := by
  induction u using Nat.strongRecOn with
  | _ u ih =>
    have hb : ∀ k, k < 10 → (UInt8.ofNat (48 + k)).toNat = 48 + k := fun k hk => by rw [UInt8.toNat_ofNat']; omega
    have hd : ∀ k, k < 10 → isDig (UInt8.ofNat (48 + k)) = true := fun k hk => by rw [isDig_iff, hb k hk]; omega
    rw [Lib.decDigits]
    by_cases h : u < 10
    · rw [dif_pos h]
      refine ⟨by rw [List.all_cons, hd u h]; rfl, by (show ((UInt8.ofNat (48 + u)).toNat - 48) * 10 ^ 0 + 0 = u; rw [hb u h]; omega), by simp, fun h1 e => ?_⟩
      have := hb u h
      have e2 : UInt8.ofNat (48 + u) = 48 := e
      rw [e2] at this
      have h48 : (48 : UInt8).toNat = 48 := rfl
      omega
    · rw [dif_neg h]
      obtain ⟨a1, a2, a3, a4⟩ := ih (u / 10) (by omega)
      have hm : u % 10 < 10 := Nat.mod_lt _ (by decide)
      refine ⟨by rw [List.all_append, a1, List.all_cons, hd _ hm]; rfl, ?_, by simp, fun _ => ?_⟩
      · rw [valD_append, a2]
        simp [valD, hb _ hm]; omega
      · have := a4 (by omega)
        cases hl : Lib.decDigits (u / 10) with
        | nil => exact absurd hl a3
        | cons c r => rw [hl] at this; exact this
theorem dec_len (u : Nat) (h : u ≤ 9223372036854775808) : (Lib.decDigits u).length ≤ 19 := by
  obtain ⟨a1, a2, a3, a4⟩ := dec_all u
  by_cases h0 : u = 0
  · rw [h0, Lib.decDigits]; simp
  · have a5 := a4 (by omega)
    cases hl : Lib.decDigits u with
    | nil => exact absurd hl a3
    | cons c r =>
      rw [hl] at a1 a2 a5
      rw [List.all_cons, Bool.and_eq_true] at a1
      have hc := dig_le a1.1
      have hc0 : c.toNat ≠ 48 := fun e => a5 (UInt8.toNat_inj.1 e)
      rcases Nat.lt_or_ge r.length 19 with k | k
      · simp; omega
      · exfalso
        have h3 : 10 ^ 19 ≤ 10 ^ r.length := Nat.pow_le_pow_right (by decide) k
        have h4 : 1 * 10 ^ r.length ≤ (c.toNat - 48) * 10 ^ r.length := Nat.mul_le_mul_right _ (by omega)
        have h5 : (c.toNat - 48) * 10 ^ r.length + valD r = u := a2
        omega
theorem whole_text (neg : Bool) (u : Nat) (hu : neg = true → 1 ≤ u) (hl : (Lib.decDigits u).length ≤ 40) : chk ((if neg then [45] else []) ++ Lib.decDigits u ++ [46, 48]) = true := by
  obtain ⟨a1, a2, a3, a4⟩ := dec_all u
  have hw : wr neg (Lib.decDigits u) [48] = some ((if neg then [45] else []) ++ Lib.decDigits u ++ [46, 48]) := by
    unfold wr
    have t2 : Lib.trimRightB [48] 48 = [] := by decide
    by_cases h0 : u = 0
    · have e : Lib.decDigits u = [48] := by rw [h0, Lib.decDigits]; rfl
      have hn : neg = false := by
        cases neg with
        | false => rfl
        | true => exact absurd (hu rfl) (by omega)
      rw [e, hn]
      decide
    · have t1 : Lib.trimLeftB (Lib.decDigits u) 48 = Lib.decDigits u := trimL_none fun c r e => by
        have := a4 (by omega)
        rw [e] at this; exact this
      simp only [t1, t2, List.append_nil]
      rw [if_neg (by simp; omega)]
      have e2 : (Lib.decDigits u).isEmpty = false := by
        cases hx : Lib.decDigits u with
        | nil => exact absurd hx a3
        | cons c r => rfl
      have e3 : orN (Lib.decDigits u) = Lib.decDigits u := by unfold orN; rw [e2]; rfl
      rw [e2, e3]
      cases neg <;> simp [orN]
  unfold chk readP
  have hs := splitP_canon neg (Lib.decDigits u) [48] a1 a3 (by decide) (by decide)
  have e4 : (if neg then [45] else []) ++ Lib.decDigits u ++ [46, 48] = (if neg then [45] else []) ++ (Lib.decDigits u ++ 46 :: [48]) := by simp
  rw [e4] at hw ⊢
  rw [hs]
  simp only [Option.map_some]
  rw [hw]
  simp


theorem bs_size (l : List UInt8) : (bs l).size = l.length := by simp [ByteArray.size]
theorem bs_app (x y : List UInt8) : (bs x ++ bs y : ByteArray).data.toList = x ++ y := by
  rw [ByteArray.data_append, Array.toList_append]
theorem whole_val (neg : Bool) (u : Nat) : dval ((if neg then [45] else []) ++ Lib.decDigits u ++ [46, 48]) = (if neg then -(u : Int) else u) * 10 ^ 54 := by
  obtain ⟨a1, a2, a3, a4⟩ := dec_all u
  have hs := splitP_canon neg (Lib.decDigits u) [48] a1 a3 (by decide) (by decide)
  have hl : (if neg then [45] else []) ++ Lib.decDigits u ++ [46, 48] = (if neg then [45] else []) ++ (Lib.decDigits u ++ 46 :: [48]) := by simp
  rw [hl]
  unfold dval dsign damt
  rw [hs]
  show sv neg (num54 (Lib.decDigits u) [48]) = _
  have hn : num54 (Lib.decDigits u) [48] = u * 10 ^ 54 := by
    unfold num54
    rw [a2, show valD [48] = 0 from rfl, Nat.zero_mul, Nat.add_zero]
  rw [hn]
  unfold sv
  cases neg
  · simp
  · simp [Int.neg_mul]
/-- The text of a whole number. -/
def intT (n : Int) : ByteArray := bs (Lib.itoa n) ++ ⟨#[46, 48]⟩
theorem intT_facts (n : Int) (h0 : -9223372036854775808 ≤ n) (h1 : n ≤ 9223372036854775807) : chk (intT n).data.toList = true ∧ dval (intT n).data.toList = n * 10 ^ 54 ∧ (intT n).size ≤ 100 ∧ (bs (Lib.itoa n)).size ≤ 20 := by
  have key : ∀ (neg : Bool) (u : Nat), (if neg then -(u : Int) else u) = n → (neg = true → 1 ≤ u) → Lib.itoa n = (if neg then [45] else []) ++ Lib.decDigits u → u ≤ 9223372036854775808 →
      chk (intT n).data.toList = true ∧ dval (intT n).data.toList = n * 10 ^ 54 ∧ (intT n).size ≤ 100 ∧ (bs (Lib.itoa n)).size ≤ 20 := by
    intro neg u hn hu hit hub
    have hlen := dec_len u hub
    have hT : (intT n).data.toList = (if neg then [45] else []) ++ Lib.decDigits u ++ [46, 48] := by
      unfold intT
      rw [ByteArray.data_append, Array.toList_append, hit]
    have hsz : (bs (Lib.itoa n)).size ≤ 20 := by
      rw [bs_size, hit, List.length_append]
      cases neg <;> simp <;> omega
    refine ⟨by rw [hT]; exact whole_text neg u hu (by omega), by rw [hT, whole_val, hn], ?_, hsz⟩
    have h5 : (intT n).data.toList.length = (intT n).size := Array.length_toList
    rw [← h5, hT]
    simp only [List.length_append, List.length_cons, List.length_nil]
    split <;> simp <;> omega
  by_cases hneg : n < 0
  · obtain ⟨u, hu⟩ : ∃ u : Nat, n = -(u : Int) := ⟨n.natAbs, by omega⟩
    have hit : Lib.itoa n = 45 :: Lib.decDigits u := by rw [hu]; exact Lib.itoa_neg u (by omega)
    exact key true u hu.symm (fun _ => by omega) hit (by omega)
  · obtain ⟨u, rfl⟩ := Int.eq_ofNat_of_zero_le (Int.not_lt.1 hneg)
    exact key false u rfl (fun h => by cases h) (Lib.itoa_nonneg u) (by omega)
end Go.Proofs.YtdnijfkiebpnpaaGreatDoor

/- Whether values in one another may be. -/
namespace Go.Proofs.YtdnijfkiebpnpaaGreatDoor
open Go.RowKit

theorem range6 {w : World} {g off : Nat} {a b c d e f : Value} (h0 : w.cell? ⟨g, off, none⟩ = some a) (h1 : w.cell? ⟨g, off + 1, none⟩ = some b) (h2 : w.cell? ⟨g, off + 2, none⟩ = some c)
    (h3 : w.cell? ⟨g, off + 3, none⟩ = some d) (h4 : w.cell? ⟨g, off + 4, none⟩ = some e) (h5 : w.cell? ⟨g, off + 5, none⟩ = some f) : w.rangeAt g off [a, b, c, d, e, f] := by
  intro j v hv
  match j, hv with
  | 0, e => cases e; exact h0
  | 1, e => cases e; exact h1
  | 2, e => cases e; exact h2
  | 3, e => cases e; exact h3
  | 4, e => cases e; exact h4
  | 5, e => cases e; exact h5
  | j + 6, e => simp at e
theorem wpList_loadMid6 {ops : Array Oper} {rest : List Oper} {o : Oper} {a : Act} {w : World} {Q : Exit → Act → World → Prop} (y : Operand) (g off : Nat) (k : Int) (b : Bool) (n : Int) (t x : ByteArray) (L : Value)
    (h0 : w.cell? ⟨g, off, none⟩ = some (.int .i64 k)) (h1 : w.cell? ⟨g, off + 1, none⟩ = some (.bool b)) (h2 : w.cell? ⟨g, off + 2, none⟩ = some (.int .i64 n))
    (h3 : w.cell? ⟨g, off + 3, none⟩ = some (.string t)) (h4 : w.cell? ⟨g, off + 4, none⟩ = some (.string x)) (h5 : w.cell? ⟨g, off + 5, none⟩ = some L)
    (hgd : o.guard = none) (ho : o.op = .load 26 y) (hx : a.eval y = .pointer (some ⟨g, off, none⟩))
    (h : wpList Tryz.prog ops Q rest (a.put o.dst (.agg #[.int .i64 k, .bool b, .int .i64 n, .string t, .string x, L])) w) : wpList Tryz.prog ops Q (o :: rest) a w :=
  wpList_load_mid hgd 26 y ho g off hx [.int .i64 k, .bool b, .int .i64 n, .string t, .string x, L] _ (range6 h0 h1 h2 h3 h4 h5) Tryz.underlying26 rfl info28 h
end Go.Proofs.YtdnijfkiebpnpaaGreatDoor

/- Whether each of a list may be. -/
namespace Go.Proofs.YtdnijfkiebpnpaaGreatDoor
open Go.RowKit

theorem Holds.at_ {w : World} {g : Nat} : (l : List Val) → (off : Nat) → Holds w g off l → ∀ (i : Nat) (h : i < l.length), HoldsOne w g (off + i * 6) l[i]
  | [], _, _, i, h => absurd h (by simp)
  | v :: r, off, hh, i, h => by
    unfold Holds at hh
    match i, h with
    | 0, _ => rw [Nat.zero_mul]; exact hh.1
    | i + 1, h =>
      have := Holds.at_ r (off + 6) hh.2 i (by simpa using h)
      rw [show off + (i + 1) * 6 = off + 6 + i * 6 by omega]
      exact this
theorem eachP_no : (l : List Val) → (d : Nat) → ∀ (i : Nat) (h : i < l.length), mayP l[i] d = false → eachP l d = false
  | [], _, i, h, _ => absurd h (by simp)
  | v :: r, d, i, h, e => by
    unfold eachP
    match i, h with
    | 0, _ => rw [show mayP v d = false from e]; rfl
    | i + 1, h => rw [eachP_no r d i (by simpa using h) e, Bool.and_false]
theorem eachP_yes : (l : List Val) → (d : Nat) → (∀ (i : Nat) (h : i < l.length), mayP l[i] d = true) → eachP l d = true
  | [], _, _ => by unfold eachP; rfl
  | v :: r, d, e => by
    unfold eachP
    rw [show mayP v d = true from e 0 (by simp), eachP_yes r d fun i h => e (i + 1) (by simpa using h)]
    rfl

/-- What mayBe answers of a value that lies somewhere. -/
def MayBeAt (v : Val) (d : Nat) : Prop := ∀ (W : World) (k : Int) (b : Bool) (n : Int) (t x : ByteArray) (l : List Val) (L : Value), v = .mk k b n t x l → Gd W → t.size ≤ 2097152 → x.size ≤ 2097152 → Held W L l →
  Calls Tryz.prog 31 #[.agg #[.int .i64 k, .bool b, .int .i64 n, .string t, .string x, L], .int .i64 d] W fun e w' => e = .returned (.bool (mayP v d)) ∧ Below W.heap.size W w'

set_option maxHeartbeats 1600000 in
theorem allMayAt (l : List Val) (g off cap d : Nat) (w : World) (hG : Gd w) (hl : Holds w g off l) (h1 : l.length ≤ 4096) (h2 : d ≤ 60) (each : ∀ v ∈ l, MayBeAt v d) :
    Calls Tryz.prog 46 #[.slice (some ⟨g, off, none⟩) l.length cap, .int .i64 d] w fun e w' => e = .returned (.bool (eachP l d)) ∧ Below w.heap.size w w' := by
  have a1 : (l.length : Int) ≤ 4096 := by omega
  have a2 : (d : Int) ≤ 60 := by omega
  have HH := Lib.hid hl
  have HE := Lib.hid each
  clear hl each
  go_enter Tryz.func46, Tryz.ntmps46
  go_wp2_with fail
  go_loopw [16] (fun i wr => ∃ j : Nat, j ≤ l.length ∧ i = .int .i64 j ∧ Below w.heap.size w wr ∧ ∀ (i : Nat) (h : i < l.length), i < j → mayP l[i] d = true) (fun i _ => l.length - (intOf i).toNat)
  case atStart => exact ⟨0, Nat.zero_le _, rfl, Below.refl _ _, fun _ _ h => absurd h (by omega)⟩
  case round =>
    obtain ⟨j, hj, rfl, hb, hall⟩ := hrel
    have HA := Lib.hid hall
    clear hall
    by_cases hlt : j < l.length
    · have ho := (Holds.at_ l off HH.out j hlt).below _ hb
      have hev := HE.out l[j] (List.getElem_mem hlt)
      obtain ⟨k, b, n, t, x, q, ev⟩ : ∃ k b n t x q, l[j] = Val.mk k b n t x q := by cases l[j] with | mk k b n t x q => exact ⟨k, b, n, t, x, q, rfl⟩
      rw [ev] at ho
      unfold HoldsOne at ho
      obtain ⟨c0, c1, c2, c3, c4, hf, L, c5, hL⟩ := ho
      have ht := hf.ht
      have hx := hf.hx
      clear hf
      obtain ⟨p, len, cp, rfl⟩ : ∃ p len cp, L = .slice p len cp := by
        cases q with
        | nil => unfold Held at hL; obtain ⟨p, cp, e⟩ := hL; exact ⟨p, 0, cp, e⟩
        | cons v r => unfold Held at hL; obtain ⟨g', off', cp, e, _⟩ := hL; exact ⟨_, _, _, e⟩
      have gr := hG.below hb
      cases hr : mayP l[j] d with
      | true =>
        have hc := (hev (wr.alloc (.cells #[.int .i64 k, .bool b, .int .i64 n, .string t, .string x, .slice p len cp] 26)) k b n t x q (.slice p len cp) ev (gr.alloc _) ht hx (Held.below q hL (below1 _ _)))
        rw [hr] at hc
        have hs : w.heap.size ≤ wr.heap.size := hb.size
        have l0 : Six (wr.alloc (.cells #[.int .i64 k, .bool b, .int .i64 n, .string t, .string x, .slice p len cp] 26)) wr.heap.size k b n t x p len cp := six_new _ rfl
        have b0 : Below w.heap.size w (wr.alloc (.cells #[.int .i64 k, .bool b, .int .i64 n, .string t, .string x, .slice p len cp] 26)) := hb.alloc hs _
        have z0 : w.heap.size ≤ (wr.alloc (.cells #[.int .i64 k, .bool b, .int .i64 n, .string t, .string x, .slice p len cp] 26)).heap.size := by have := l0.lt; omega
        go_wp2_with (first
          | ((with_reducible refine wpList_loadMid6 (.tmp 18) g (off + j * 6) k b n t x (.slice p len cp) c0 c1 c2 c3 c4 c5 ?_ ?_ ?_ ?_); rfl; rfl; rfl)
          | ((with_reducible refine wpList_load6 (.tmp 6) wr.heap.size l0 ?_ ?_ ?_ ?_); rfl; rfl; rfl)
          | (go_at_call 31; (with_reducible refine hc.mono ?_); rintro e w3 ⟨rfl, hb3⟩; have b3 := below_any b0 hb3 z0))
        go_roundw
        case rel =>
          refine ⟨j + 1, by omega, by go_num, b3, fun i hi hlt' => ?_⟩
          by_cases e : i = j
          · subst e; exact hr
          · exact HA.out i hi (by omega)
        case measure => simp [intOf]; omega
      | false =>
        have hc := (hev (wr.alloc (.cells #[.int .i64 k, .bool b, .int .i64 n, .string t, .string x, .slice p len cp] 26)) k b n t x q (.slice p len cp) ev (gr.alloc _) ht hx (Held.below q hL (below1 _ _)))
        rw [hr] at hc
        have hs : w.heap.size ≤ wr.heap.size := hb.size
        have l0 : Six (wr.alloc (.cells #[.int .i64 k, .bool b, .int .i64 n, .string t, .string x, .slice p len cp] 26)) wr.heap.size k b n t x p len cp := six_new _ rfl
        have b0 : Below w.heap.size w (wr.alloc (.cells #[.int .i64 k, .bool b, .int .i64 n, .string t, .string x, .slice p len cp] 26)) := hb.alloc hs _
        have z0 : w.heap.size ≤ (wr.alloc (.cells #[.int .i64 k, .bool b, .int .i64 n, .string t, .string x, .slice p len cp] 26)).heap.size := by have := l0.lt; omega
        go_wp2_with (first
          | ((with_reducible refine wpList_loadMid6 (.tmp 18) g (off + j * 6) k b n t x (.slice p len cp) c0 c1 c2 c3 c4 c5 ?_ ?_ ?_ ?_); rfl; rfl; rfl)
          | ((with_reducible refine wpList_load6 (.tmp 6) wr.heap.size l0 ?_ ?_ ?_ ?_); rfl; rfl; rfl)
          | (go_at_call 31; (with_reducible refine hc.mono ?_); rintro e w3 ⟨rfl, hb3⟩; have b3 := below_any b0 hb3 z0))
        go_ret
        exact ⟨by rw [eachP_no l d j hlt hr]; rfl, b3⟩
    · go_wp2_with fail
      go_ret
      exact ⟨by rw [eachP_yes l d fun i h => HA.out i h (by omega)]; rfl, hb⟩
end Go.Proofs.YtdnijfkiebpnpaaGreatDoor

/- Whether a value may be: the program's answer, for values in one another. -/
namespace Go.Proofs.YtdnijfkiebpnpaaGreatDoor
open Go.RowKit

theorem held_slice {W : World} {L : Value} {l : List Val} (h : Held W L l) : ∃ p cap, L = .slice p l.length cap := by
  cases l with
  | nil => unfold Held at h; exact h
  | cons v r => unfold Held at h; obtain ⟨g, off, cap, e, _⟩ := h; exact ⟨_, cap, e⟩

theorem allBig (p : Option Addr) (len cap : Nat) (d : Int) (w : World) (h : (4096 : Int) < len) :
    Calls Tryz.prog 46 #[.slice p len cap, .int .i64 d] w fun e w' => e = .returned (.bool false) ∧ Below w.heap.size w w' := by
  go_enter Tryz.func46, Tryz.ntmps46
  go_wp2_with fail
  go_ret
  exact ⟨rfl, Below.refl _ _⟩
theorem allDeep (p : Option Addr) (len cap : Nat) (d : Int) (w : World) (h : ¬ (4096 : Int) < len) (h2 : 60 < d) :
    Calls Tryz.prog 46 #[.slice p len cap, .int .i64 d] w fun e w' => e = .returned (.bool false) ∧ Below w.heap.size w w' := by
  go_enter Tryz.func46, Tryz.ntmps46
  go_wp2_with fail
  go_ret
  exact ⟨rfl, Below.refl _ _⟩
theorem allNone (p : Option Addr) (cap : Nat) (d : Int) (w : World) (h2 : ¬ 60 < d) :
    Calls Tryz.prog 46 #[.slice p 0 cap, .int .i64 d] w fun e w' => e = .returned (.bool true) ∧ Below w.heap.size w w' := by
  go_enter Tryz.func46, Tryz.ntmps46
  go_wp2_with fail
  go_loopw [16] (fun i wr => i = .int .i64 0 ∧ wr = w) (fun _ _ => 0)
  case atStart => exact ⟨rfl, rfl⟩
  case round =>
    obtain ⟨rfl, rfl⟩ := hrel
    go_wp2_with fail
    go_ret
    exact ⟨rfl, Below.refl _ _⟩

theorem allAny (l : List Val) (L : Value) (d : Nat) (w : World) (hG : Gd w) (hl : Held w L l) (each : d ≤ 60 → ∀ v ∈ l, MayBeAt v d) :
    Calls Tryz.prog 46 #[L, .int .i64 d] w fun e w' => e = .returned (.bool (decide (l.length ≤ 4096) && decide (d ≤ 60) && eachP l d)) ∧ Below w.heap.size w w' := by
  obtain ⟨p, cap, rfl⟩ := held_slice hl
  by_cases h1 : l.length ≤ 4096
  · rw [decide_eq_true h1, Bool.true_and]
    by_cases h2 : d ≤ 60
    · rw [decide_eq_true h2, Bool.true_and]
      cases l with
      | nil =>
        unfold eachP
        exact allNone p cap d w (by omega)
      | cons v r =>
        unfold Held at hl
        obtain ⟨g, off, cap', e, hv, hr⟩ := hl
        cases e
        refine allMayAt (v :: r) g off cap d w hG ?_ h1 h2 (each h2)
        unfold Holds
        exact ⟨hv, hr⟩
    · rw [decide_eq_false h2, Bool.false_and]
      exact allDeep p _ cap d w (by omega) (by omega)
  · rw [decide_eq_false h1, Bool.false_and, Bool.false_and]
    exact allBig p _ cap d w (by omega)

theorem mayBe_step (d : Nat) (hd : d ≤ 60) (next : d + 1 ≤ 60 → ∀ v, MayBeAt v (d + 1)) (v : Val) : MayBeAt v d := by
  intro W k b n t x l L e hG ht hx hL
  subst e
  obtain ⟨p, cap, rfl⟩ := held_slice hL
  unfold mayP
  refine mayBeOf k b n t x p l.length cap d W _ hG (by omega) (by omega) (by omega) (by omega) fun _ W' hb => ?_
  have := allAny l _ (d + 1) W' (hG.below hb) (Held.below l hL hb) fun h v _ => next h v
  simpa using this
theorem mayBeAll : ∀ (m d : Nat), m + d = 60 → ∀ v, MayBeAt v d
  | 0, d, e, v => mayBe_step d (by omega) (fun h => absurd h (by omega)) v
  | m + 1, d, e, v => mayBe_step d (by omega) (fun _ => mayBeAll m (d + 1) (by omega)) v

/-- Check answers mayP, of any value that lies whole in memory. -/
theorem checkAtV (v : Val) (k : Int) (b : Bool) (n : Int) (t x : ByteArray) (l : List Val) (L : Value) (W : World) (e : v = .mk k b n t x l) (hG : Gd W) (ht : t.size ≤ 2097152) (hx : x.size ≤ 2097152) (hL : Held W L l) :
    Calls Tryz.prog 21 #[.agg #[.int .i64 k, .bool b, .int .i64 n, .string t, .string x, L]] W fun e w' => e = .returned (.bool (mayP v 0)) ∧ Below W.heap.size W w' := by
  obtain ⟨p, cap, rfl⟩ := held_slice hL
  have l0 : Six (W.alloc (.cells #[.int .i64 k, .bool b, .int .i64 n, .string t, .string x, .slice p l.length cap] 26)) W.heap.size k b n t x p l.length cap := six_new _ rfl
  have b0 := below1 W (.cells #[.int .i64 k, .bool b, .int .i64 n, .string t, .string x, .slice p l.length cap] 26)
  have hc : Calls Tryz.prog 31 #[.agg #[.int .i64 k, .bool b, .int .i64 n, .string t, .string x, .slice p l.length cap], .int .i64 0] (W.alloc (.cells #[.int .i64 k, .bool b, .int .i64 n, .string t, .string x, .slice p l.length cap] 26)) _ :=
    mayBeAll 60 0 rfl v _ k b n t x l _ e (hG.alloc _) ht hx (Held.below l hL b0)
  go_enter Tryz.func21, Tryz.ntmps21
  go_wp2_with (first
    | ((with_reducible refine wpList_load6 (.tmp 1) W.heap.size l0 ?_ ?_ ?_ ?_); rfl; rfl; rfl)
    | (go_at_call 31; (with_reducible refine hc.mono ?_); rintro e w' ⟨rfl, hb⟩; have b3 := below_any b0 hb (Nat.le_of_lt l0.lt)))
  go_ret
  exact ⟨by first | rfl | (subst e; rfl), b3⟩
end Go.Proofs.YtdnijfkiebpnpaaGreatDoor
