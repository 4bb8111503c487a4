/- Long division, digit by digit. No Go stands here. -/
import Derived.Test.YtabgilmehehbjaaDoorM2
import Derived.Test.YtabgilmehehbjaaDoorD2
namespace Go.Proofs.YtabgilmehehbjaaDoor

/-- The digits qs have been found of the first t of 164 digits of N by m; R is left. -/
structure OverTo (N m t R : Nat) (qs : List UInt8) : Prop where
  len : qs.length = t
  dig : qs.all isDig = true
  eq : valD qs * m + R = N / 10 ^ (164 - t)
  lt : R < m

theorem OverTo.zero {N m : Nat} (hN : N < 10 ^ 164) (hm : 0 < m) : OverTo N m 0 0 [] :=
  ⟨rfl, rfl, by rw [Nat.sub_zero, Nat.div_eq_of_lt hN]; simp [valD], hm⟩

/-- A digit as a sign. -/
def digB (j : Nat) : UInt8 := UInt8.ofNat (48 + j)
theorem digB_toNat {j : Nat} (h : j ≤ 9) : (digB j).toNat = 48 + j := by
  unfold digB; rw [UInt8.toNat_ofNat']; omega
theorem digB_dig {j : Nat} (h : j ≤ 9) : isDig (digB j) = true := by
  rw [isDig_iff, digB_toNat h]; omega

theorem OverTo.step {N m t R R' j : Nat} {qs : List UInt8} (H : OverTo N m t R qs) (ht : t < 164) (hj : j ≤ 9) (he : R' + j * m = R * 10 + N / 10 ^ (163 - t) % 10) (hl : R' < m) :
    OverTo N m (t + 1) R' (qs ++ [digB j]) := by
  refine ⟨by simp [H.len], by rw [List.all_append, H.dig, Bool.true_and, List.all_cons, digB_dig hj]; rfl, ?_, hl⟩
  have e1 : 164 - t = 163 - t + 1 := by omega
  have e := H.eq
  rw [e1, Nat.pow_succ, ← Nat.div_div_eq_div_mul] at e
  have e2 : 164 - (t + 1) = 163 - t := by omega
  rw [e2, valD_append]
  have e3 : valD [digB j] = j := by simp [valD, digB_toNat hj]
  rw [e3]
  simp only [List.length_singleton, Nat.pow_one]
  have d := Nat.div_add_mod (N / 10 ^ (163 - t)) 10
  generalize N / 10 ^ (163 - t) = P at *
  rw [← e] at d
  have : (valD qs * 10 + j) * m = 10 * (valD qs * m) + j * m := by rw [Nat.add_mul, Nat.mul_right_comm, Nat.mul_comm]
  rw [this]
  omega

theorem OverTo.digit_le {N m t R j R' : Nat} {qs : List UInt8} (H : OverTo N m t R qs) {dg : Nat} (hd : dg ≤ 9) (he : R' + j * m = R * 10 + dg) (hge : m ≤ R') : j + 1 ≤ 9 := by
  have h := H.lt
  have h1 : (R + 1) * 10 ≤ m * 10 := Nat.mul_le_mul_right _ h
  by_cases hj : j + 1 ≤ 9
  · exact hj
  · have : 9 * m ≤ j * m := Nat.mul_le_mul_right _ (by omega)
    omega

theorem OverTo.done {N m R : Nat} {qs : List UInt8} (H : OverTo N m 164 R qs) : qs = digsOf (N / m) 0 164 := by
  have e := H.eq
  rw [Nat.sub_self, Nat.pow_zero, Nat.div_one] at e
  have hq : N / m = valD qs := by
    rw [← e]
    have := H.lt
    rw [Nat.mul_comm, Nat.mul_add_div (by omega), Nat.div_eq_of_lt this, Nat.add_zero]
  have hl := valD_lt qs H.dig
  rw [H.len] at hl
  refine eq_of_val _ _ H.dig (digsOf_dig _ _ _) (by rw [H.len, digsOf_len]) ?_
  rw [digsOf_val, Nat.pow_zero, Nat.div_one, hq, Nat.mod_eq_of_lt hl]

theorem digsOf_split (N : Nat) (a b : Nat) : ∀ lo, digsOf N lo (a + b) = digsOf N (lo + b) a ++ digsOf N lo b := by
  intro lo
  induction a with
  | zero => simp [digsOf]
  | succ a ih =>
    rw [show a + 1 + b = (a + b) + 1 by omega]
    simp only [digsOf, ih, List.cons_append]
    congr 2
    omega

theorem PushTo.done {f h : Nat → Nat} {d c : Nat} (H : PushTo f d h c 16) (hs : wval f * 10 + d < BASE ^ 16) : wval h = wval f * 10 + d := by
  have s := H.sum
  have hc : c = 0 := by
    by_cases e : c = 0
    · exact e
    · have : 1 * BASE ^ 16 ≤ c * BASE ^ 16 := Nat.mul_le_mul_right _ (by omega)
      unfold wval at hs; omega
  subst hc
  unfold wval at *; omega

theorem digAt_shift (N q : Nat) : digAt (N * 10 ^ 20) (q + 20) = digAt N q := by
  unfold digAt
  rw [Nat.pow_add, Nat.mul_comm (10 ^ q), ← Nat.div_div_eq_div_mul, Nat.mul_div_cancel _ (Nat.pow_pos (by omega))]
theorem digAt_low (N q : Nat) (h : q < 20) : digAt (N * 10 ^ 20) q = 48 := by
  unfold digAt
  have e : N * 10 ^ 20 = (N * 10 ^ (19 - q) * 10) * 10 ^ q := by
    rw [Nat.mul_assoc, Nat.mul_assoc]
    congr 1
    rw [← Nat.mul_assoc, ← Nat.pow_succ, ← Nat.pow_add]
    congr 1; omega
  rw [e, Nat.mul_div_cancel _ (Nat.pow_pos (by omega)), Nat.mul_mod_left]
  rfl

end Go.Proofs.YtabgilmehehbjaaDoor
