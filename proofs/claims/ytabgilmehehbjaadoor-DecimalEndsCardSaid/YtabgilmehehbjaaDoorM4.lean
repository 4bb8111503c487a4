/- The product of two rows of words, whose words outside 3 .. 10 are noughts. No Go stands here. -/
import Derived.Test.YtabgilmehehbjaaDoorM2
namespace Go.Proofs.YtabgilmehehbjaaDoor

/-- Only the words from 3 to 10 may be other than 0. -/
def Mid (f : Nat → Nat) : Prop := ∀ j, j < 3 ∨ 11 ≤ j → j < 16 → f j = 0

theorem vN_low (f : Nat → Nat) (h : Mid f) : vN 3 f = 0 := by
  simp only [vN, h 0 (by omega) (by omega), h 1 (by omega) (by omega), h 2 (by omega) (by omega)]
  simp
theorem vN_mid (f : Nat → Nat) (h : Mid f) : vN 11 f = wval f := by
  have := vN_above f (fun _ => 0) 11 16 (by omega) (fun j a b => h j (by omega) b)
  have e : ∀ n, vN n (fun _ => 0) = 0 := by intro n; induction n with
    | zero => rfl
    | succ n ih => simp [vN, ih]
  rw [e, e] at this
  unfold wval; omega

/-- The outer loop: the words below i of f have been multiplied. -/
structure TimesI (f g p : Nat → Nat) (i : Nat) : Prop where
  val : wval p * BASE ^ 6 = vN i f * wval g
  words : Words p
  high : ∀ j, i + 5 ≤ j → j < 16 → p j = 0
/-- The inner loop: word i of f has been multiplied with the words below j of g. -/
structure TimesJ (f g p : Nat → Nat) (i j cr : Nat) : Prop where
  val : wval p * BASE ^ 6 + cr * BASE ^ (i + j) = vN i f * wval g + f i * BASE ^ i * vN j g
  words : Words p
  high : ∀ k, i + 5 ≤ k → k < 16 → p k = 0
  carry : cr < BASE

theorem wval_zero : wval (fun _ => 0) = 0 := by
  have e : ∀ n, vN n (fun _ => 0) = 0 := by intro n; induction n with
    | zero => rfl
    | succ n ih => simp [vN, ih]
  exact e 16
theorem TimesI.zero {f g : Nat → Nat} (hf : Mid f) : TimesI f g (fun _ => 0) 3 :=
  ⟨by rw [vN_low f hf, wval_zero, Nat.zero_mul, Nat.zero_mul], fun _ _ => by decide, fun _ _ _ => rfl⟩
theorem TimesI.inner {f g p : Nat → Nat} {i : Nat} (H : TimesI f g p i) (hg : Mid g) : TimesJ f g p i 3 0 :=
  ⟨by rw [vN_low g hg, H.val, Nat.zero_mul, Nat.mul_zero], H.words, H.high, by decide⟩
theorem base_is : BASE = 1000000000 := rfl
theorem sum_lt {x y p c : Nat} (hx : x < BASE) (hy : y < BASE) (hp : p < BASE) (hc : c < BASE) : x * y + p + c < BASE * BASE := by
  rw [base_is] at *
  have h1 : x * y ≤ 999999999 * 999999999 := Nat.mul_le_mul (by omega) (by omega)
  omega
theorem TimesJ.step {f g p : Nat → Nat} {i j cr : Nat} (H : TimesJ f g p i j cr) (hf : Words f) (hg : Words g) (hi : i < 11) (hj : j < 11) (hi3 : 3 ≤ i) (hj3 : 3 ≤ j) :
    TimesJ f g (upd p (i + j - 6) ((f i * g j + p (i + j - 6) + cr) % BASE)) i (j + 1) ((f i * g j + p (i + j - 6) + cr) / BASE) := by
  have hs := sum_lt (hf i (by omega)) (hg j (by omega)) (H.words (i + j - 6) (by omega)) H.carry
  refine ⟨?_, H.words.upd (Nat.mod_lt _ (by decide)), ?_, by rw [Nat.div_lt_iff_lt_mul (by decide)]; exact hs⟩
  · have hu := wval_upd p (i + j - 6) ((f i * g j + p (i + j - 6) + cr) % BASE) (by omega)
    have hv := H.val
    have hd := Nat.div_add_mod (f i * g j + p (i + j - 6) + cr) BASE
    have e6 : BASE ^ (i + j) = BASE ^ (i + j - 6) * BASE ^ 6 := by rw [← Nat.pow_add]; congr 1; omega
    have e1 : BASE ^ (i + (j + 1)) = BASE * BASE ^ (i + j) := by rw [← Nat.add_assoc, Nat.pow_succ, Nat.mul_comm]
    have ej : BASE ^ i * BASE ^ j = BASE ^ (i + j) := by rw [← Nat.pow_add]
    generalize p (i + j - 6) = pa at *
    generalize (f i * g j + pa + cr) / BASE = q at *
    generalize (f i * g j + pa + cr) % BASE = r at *
    generalize wval (upd p (i + j - 6) r) = W' at *
    generalize wval p = W at *
    have hu6 : W' * BASE ^ 6 + pa * BASE ^ (i + j) = W * BASE ^ 6 + r * BASE ^ (i + j) := by
      rw [e6, ← Nat.mul_assoc, ← Nat.mul_assoc, ← Nat.add_mul, ← Nat.add_mul, hu]
    have hd6 : (BASE * q + r) * BASE ^ (i + j) = (f i * g j + pa + cr) * BASE ^ (i + j) := by rw [hd]
    have hq : q * BASE ^ (i + (j + 1)) = BASE * q * BASE ^ (i + j) := by rw [e1]; ac_rfl
    have hfg : f i * BASE ^ i * (g j * BASE ^ j) = f i * g j * BASE ^ (i + j) := by rw [← ej]; ac_rfl
    rw [hq]
    simp only [vN, Nat.mul_add, hfg]
    simp only [Nat.add_mul] at hd6
    omega
  · intro k hk hk2
    rw [upd_other _ _ (by omega)]
    exact H.high k hk hk2
theorem TimesJ.outer {f g p : Nat → Nat} {i cr : Nat} (H : TimesJ f g p i 11 cr) (hg : Mid g) (hi : i < 11) : TimesI f g (upd p (i + 5) cr) (i + 1) := by
  refine ⟨?_, H.words.upd H.carry, ?_⟩
  · have hu := wval_upd p (i + 5) cr (by omega)
    rw [H.high (i + 5) (by omega) (by omega), Nat.zero_mul, Nat.add_zero] at hu
    have hv := H.val
    rw [vN_mid g hg] at hv
    have e6 : BASE ^ (i + 11) = BASE ^ (i + 5) * BASE ^ 6 := by rw [← Nat.pow_add]
    rw [hu, Nat.add_mul, Nat.mul_assoc, ← e6, hv]
    simp only [vN, Nat.add_mul]
  · intro k hk hk2
    rw [upd_other _ _ (by omega)]
    exact H.high k (by omega) hk2
theorem TimesI.done {f g p : Nat → Nat} (H : TimesI f g p 11) (hf : Mid f) : wval p * 10 ^ 54 = wval f * wval g := by
  have := H.val
  rw [vN_mid f hf, base_pow] at this
  exact this

/-- An amount that has twenty digits behind the point and forty ahead lies in the middle. -/
theorem mid_of (f : Nat → Nat) (hf : Words f) (h1 : wval f < 10 ^ 94) (h2 : wval f % 10 ^ 34 = 0) : Mid f := by
  intro j hj hj2
  rw [limb_val f hf j hj2, base_pow]
  rcases hj with hj | hj
  · have e : wval f = wval f / 10 ^ 34 * 10 ^ 34 := by
      have := Nat.div_add_mod (wval f) (10 ^ 34)
      rw [h2, Nat.add_zero, Nat.mul_comm] at this
      exact this.symm
    have e2 : (10 : Nat) ^ 34 = 10 ^ (34 - 9 * j - 9) * BASE * 10 ^ (9 * j) := by
      have : BASE = 10 ^ 9 := rfl
      rw [this, ← Nat.pow_add, ← Nat.pow_add]; congr 1; omega
    rw [e, e2, ← Nat.mul_assoc, ← Nat.mul_assoc, Nat.mul_div_cancel _ (Nat.pow_pos (by omega)), Nat.mul_mod_left]
  · have : 10 ^ 94 ≤ 10 ^ (9 * j) := Nat.pow_le_pow_right (by omega) (by omega)
    rw [Nat.div_eq_of_lt (by omega), Nat.zero_mod]

end Go.Proofs.YtabgilmehehbjaaDoor
