/- Words and digits. No Go stands here. -/
import Derived.Test.YtabgilmehehbjaaDoorM
namespace Go.Proofs.YtabgilmehehbjaaDoor

theorem base_pow (j : Nat) : BASE ^ j = 10 ^ (9 * j) := by
  rw [Nat.pow_mul]; rfl
theorem base_pos (j : Nat) : 0 < BASE ^ j := Nat.pow_pos (by decide)

theorem limb_N (f : Nat → Nat) (hf : Words f) (j : Nat) : ∀ n, j < n → n ≤ 16 → vN n f / BASE ^ j % BASE = f j := by
  intro n
  induction n with
  | zero => intro h; omega
  | succ n ih =>
    intro h hn
    by_cases e : j = n
    · subst e
      have := vN_lt f hf j (by omega)
      simp only [vN]
      rw [Nat.add_mul_div_right _ _ (base_pos j), Nat.div_eq_of_lt this, Nat.zero_add, Nat.mod_eq_of_lt (hf j (by omega))]
    · have hlt : j < n := by omega
      rw [← ih hlt (by omega)]
      simp only [vN]
      obtain ⟨d, rfl⟩ : ∃ d, n = j + 1 + d := ⟨n - (j + 1), by omega⟩
      have e : f (j + 1 + d) * BASE ^ (j + 1 + d) = (f (j + 1 + d) * BASE ^ d * BASE) * BASE ^ j := by
        rw [Nat.pow_add, Nat.pow_succ]
        generalize BASE ^ d = x
        generalize BASE ^ j = y
        ac_rfl
      rw [e, Nat.add_mul_div_right _ _ (base_pos j), Nat.add_mul_mod_self_right]

theorem limb_val (f : Nat → Nat) (hf : Words f) (j : Nat) (hj : j < 16) : f j = wval f / BASE ^ j % BASE := (limb_N f hf j 16 hj (Nat.le_refl _)).symm

theorem vN_updv (f : Nat → Nat) (j v : Nat) : ∀ n, j < n → vN n (upd f j v) + f j * BASE ^ j = vN n f + v * BASE ^ j := by
  intro n
  induction n with
  | zero => intro h; omega
  | succ n ih =>
    intro h
    by_cases e : j = n
    · subst e
      simp only [vN, upd_same, vN_upd _ _ _ _ (Nat.le_refl _)]; omega
    · have := ih (by omega)
      simp only [vN, upd_other f v (show n ≠ j by omega)]; omega
theorem wval_upd (f : Nat → Nat) (j v : Nat) (hj : j < 16) : wval (upd f j v) + f j * BASE ^ j = wval f + v * BASE ^ j := vN_updv f j v 16 hj

/-- A place with nothing but noughts at it and below has room for a digit. -/
theorem room (f : Nat → Nat) (hf : Words f) (M p : Nat) (hp : p < 144) (h : wval f = M * 10 ^ (p + 1)) : f (p / 9) + 9 * 10 ^ (p % 9) < BASE := by
  rw [limb_val f hf (p / 9) (by omega), base_pow, h]
  have e : 10 ^ (p + 1) = 10 ^ (p % 9 + 1) * 10 ^ (9 * (p / 9)) := by rw [← Nat.pow_add]; congr 1; omega
  rw [e, ← Nat.mul_assoc, Nat.mul_div_cancel _ (Nat.pow_pos (by omega))]
  obtain ⟨r, hr⟩ : ∃ r, r = p % 9 := ⟨_, rfl⟩
  rw [← hr]
  have hr9 : r ≤ 8 := by omega
  have eb : BASE = 10 ^ (r + 1) * 10 ^ (8 - r) := by rw [← Nat.pow_add, show r + 1 + (8 - r) = 9 by omega]; rfl
  rw [Nat.mul_comm M, eb, Nat.mul_mod_mul_left]
  have h1 : M % 10 ^ (8 - r) < 10 ^ (8 - r) := Nat.mod_lt _ (Nat.pow_pos (by omega))
  have h2 : 10 ^ (r + 1) * (M % 10 ^ (8 - r) + 1) ≤ 10 ^ (r + 1) * 10 ^ (8 - r) := Nat.mul_le_mul_left _ h1
  rw [Nat.mul_add, Nat.mul_one, Nat.pow_succ] at h2
  have h3 : 0 < 10 ^ r := Nat.pow_pos (by omega)
  rw [Nat.pow_succ]
  omega

/-- A digit laid at a place adds its worth. -/
theorem put_val (f : Nat → Nat) (p d : Nat) (hp : p < 144) : wval (upd f (p / 9) (f (p / 9) + d * 10 ^ (p % 9))) = wval f + d * 10 ^ p := by
  have := wval_upd f (p / 9) (f (p / 9) + d * 10 ^ (p % 9)) (by omega)
  have e : d * 10 ^ (p % 9) * BASE ^ (p / 9) = d * 10 ^ p := by
    rw [base_pow, Nat.mul_assoc, ← Nat.pow_add]; congr 2; omega
  rw [Nat.add_mul, e] at this
  omega

/-- The digit at a place. -/
theorem digit_val (f : Nat → Nat) (hf : Words f) (p : Nat) (hp : p < 144) : f (p / 9) / 10 ^ (p % 9) % 10 = wval f / 10 ^ p % 10 := by
  rw [limb_val f hf (p / 9) (by omega), base_pow]
  have e : 10 ^ p = 10 ^ (9 * (p / 9)) * 10 ^ (p % 9) := by rw [← Nat.pow_add]; congr 1; omega
  rw [e, ← Nat.div_div_eq_div_mul]
  generalize wval f / 10 ^ (9 * (p / 9)) = N
  obtain ⟨r, hr⟩ : ∃ r, r = p % 9 := ⟨_, rfl⟩
  rw [← hr]
  have eb : BASE = 10 ^ r * 10 ^ (9 - r) := by rw [← Nat.pow_add, show r + (9 - r) = 9 by omega]; rfl
  rw [eb, Nat.mod_mul_right_div_self]
  have e2 : 10 ^ (9 - r) = 10 * 10 ^ (8 - r) := by rw [Nat.mul_comm, ← Nat.pow_succ]; congr 1; omega
  rw [e2, Nat.mod_mul_right_mod]

end Go.Proofs.YtabgilmehehbjaaDoor
