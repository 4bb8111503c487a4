/- The laws of decimals, as laws of whole numbers. No Go stands here. -/
import Derived.Test.YtabgilmehehbjaaDoorD3
namespace Go.Proofs.YtabgilmehehbjaaDoor

/-- The product. -/
def dmul (l r : List UInt8) : Int := sv (dsign l != dsign r) (damt l * damt r / 10 ^ 54)
/-- The quotient, cut behind twenty digits. -/
def dquo (l r : List UInt8) : Int := sv (dsign l != dsign r) (damt l * 10 ^ 20 / damt r * 10 ^ 34)
/-- -1, 0 or 1. -/
def cmpZ (x y : Int) : Int := if x < y then -1 else if y < x then 1 else 0

theorem cmpZ_bound (x y : Int) : -1 ≤ cmpZ x y ∧ cmpZ x y ≤ 1 := by unfold cmpZ; split <;> (try split) <;> omega
theorem cmpZ_swap (x y : Int) : cmpZ y x = -cmpZ x y := by unfold cmpZ; split <;> split <;> (try split) <;> omega
theorem cmpZ_neg (x y : Int) : cmpZ (-x) (-y) = -cmpZ x y := by unfold cmpZ; split <;> split <;> (try split) <;> (try split) <;> omega
theorem cmpZ_zero (x y : Int) : cmpZ x y = 0 ↔ x = y := by unfold cmpZ; split <;> (try split) <;> omega

theorem natAbs_sv (n : Bool) (x : Nat) : (sv n x).natAbs = x := by unfold sv; cases n <;> simp
theorem dval_lt {l : List UInt8} (h : chk l = true) : (dval l).natAbs < 10 ^ 94 := by
  unfold dval; rw [natAbs_sv]; exact (chk_dec l h).2.1
theorem dval_inj {l r : List UInt8} (h : chk l = true) (h2 : chk r = true) : dval l = dval r ↔ l = r := by
  constructor
  · intro e
    have a := (chk_dec l h).1
    have b := (chk_dec r h2).1
    rw [e, b] at a
    exact (Option.some.inj a).symm
  · rintro rfl; rfl

theorem txt_neg {z : Int} {l : List UInt8} (h : txt z = some l) : ∃ r, txt (-z) = some r := by
  unfold txt wrN wr at *
  simp only [Int.natAbs_neg] at *
  split at h
  · cases h
  · rename_i hl
    rw [if_neg hl]
    exact ⟨_, rfl⟩

theorem dmul_comm (l r : List UInt8) : dmul l r = dmul r l := by
  unfold dmul
  rw [Nat.mul_comm, show (dsign l != dsign r) = (dsign r != dsign l) by cases dsign l <;> cases dsign r <;> rfl]

theorem exact34 {x : Nat} (h : x % 10 ^ 34 = 0) : x = x / 10 ^ 34 * 10 ^ 34 := by
  have := Nat.div_add_mod x (10 ^ 34)
  rw [h, Nat.add_zero, Nat.mul_comm] at this
  exact this.symm

theorem p68 : (10 : Nat) ^ 34 * 10 ^ 34 = 10 ^ 14 * 10 ^ 54 := by decide
theorem p34 : (10 : Nat) ^ 14 * 10 ^ 20 = 10 ^ 34 := by decide
theorem prod_exact {x y : Nat} (hx : x % 10 ^ 34 = 0) (hy : y % 10 ^ 34 = 0) : x * y / 10 ^ 54 = x / 10 ^ 34 * (y / 10 ^ 34) * 10 ^ 14 := by
  generalize hA : x / 10 ^ 34 = A
  generalize hB : y / 10 ^ 34 = B
  have e1 := exact34 hx
  have e2 := exact34 hy
  rw [hA] at e1
  rw [hB] at e2
  have e : x * y = A * B * 10 ^ 14 * 10 ^ 54 := by
    rw [e1, e2, Nat.mul_assoc (A * B), ← p68]
    generalize (10 : Nat) ^ 34 = T
    ac_rfl
  rw [e, Nat.mul_div_cancel _ (by decide)]

theorem dmul_lt {l r : List UInt8} (h : chk l = true) (h2 : chk r = true) : (dmul l r).natAbs < 10 ^ 144 := by
  unfold dmul
  rw [natAbs_sv, Nat.div_lt_iff_lt_mul (by decide)]
  have a := (chk_dec l h).2.1
  have b := (chk_dec r h2).2.1
  have h3 : damt l * damt r ≤ 10 ^ 94 * 10 ^ 94 := Nat.mul_le_mul (by omega) (by omega)
  have h4 : (10 : Nat) ^ 94 * 10 ^ 94 < 10 ^ 144 * 10 ^ 54 := by decide
  omega

/-- A product divided by what it was multiplied with. -/
theorem quo_mul {l r m : List UInt8} (h : chk l = true) (h2 : chk r = true) (h0 : damt r ≠ 0) (hm : txt (dmul l r) = some m) : dquo m r = dval l := by
  obtain ⟨_, dm⟩ := txt_dec _ (dmul_lt h h2) m hm
  obtain ⟨_, _, a2, a3, _⟩ := chk_dec l h
  obtain ⟨_, _, b2, b3, _⟩ := chk_dec r h2
  have e1 : damt m = damt l / 10 ^ 34 * (damt r / 10 ^ 34) * 10 ^ 14 := by
    have := congrArg Int.natAbs dm
    unfold dval dmul at this
    rwa [natAbs_sv, natAbs_sv, prod_exact a2 b2] at this
  have x1 := exact34 a2
  have x2 := exact34 b2
  generalize hA : damt l / 10 ^ 34 = A at *
  generalize hB : damt r / 10 ^ 34 = B at *
  have hB0 : 0 < B := by
    by_cases e : B = 0
    · rw [e, Nat.zero_mul] at x2; exact absurd x2 h0
    · omega
  have e2 : damt m * 10 ^ 20 / damt r = A := by
    rw [e1, x2, Nat.mul_assoc _ (10 ^ 14), p34, Nat.mul_assoc A B]
    exact Nat.mul_div_cancel _ (Nat.mul_pos hB0 (by decide))
  have hs : sv (dsign m) (damt m) = sv (dsign l != dsign r) (damt m) := by
    have := dm
    unfold dval dmul at this
    rw [prod_exact a2 b2, hA, hB, ← e1] at this
    exact this
  unfold dquo dval
  rw [e2, ← x1]
  by_cases hz : damt l = 0
  · rw [hz]; unfold sv; simp
  · have hm0 : damt m ≠ 0 := by
      rw [e1]
      have : 0 < A := by
        by_cases e : A = 0
        · rw [e, Nat.zero_mul] at x1; exact absurd x1 hz
        · omega
      have : 0 < A * B * 10 ^ 14 := Nat.mul_pos (Nat.mul_pos this hB0) (by decide)
      omega
    have hsm : dsign m = (dsign l != dsign r) := by
      unfold sv at hs
      cases h3 : dsign m <;> cases h4 : (dsign l != dsign r) <;> simp only [h3, h4, Bool.false_eq_true, if_false, if_true] at hs <;> first | rfl | omega
    rw [hsm]
    congr 1
    cases dsign l <;> cases dsign r <;> rfl

theorem dec_zero {l : List UInt8} (h : chk l = true) (h0 : damt l = 0) : l = [48, 46, 48] := by
  have a := (chk_dec l h).1
  have e : dval l = 0 := by unfold dval sv; rw [h0]; simp
  rw [e] at a
  have z : txt 0 = some [48, 46, 48] := by decide +kernel
  rw [z] at a
  exact (Option.some.inj a).symm

end Go.Proofs.YtabgilmehehbjaaDoor
