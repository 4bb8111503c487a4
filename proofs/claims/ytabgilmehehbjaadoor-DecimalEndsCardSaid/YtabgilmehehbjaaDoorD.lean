/- Digits and what they say; the two ways round between numbers and their texts. No Go stands here. -/
import Derived.Test.YtabgilmehehbjaaDoorP
import Derived.Test.YtabgilmehehbjaaDoorM
namespace Go.Proofs.YtabgilmehehbjaaDoor

/-- What digits say. -/
def valD : List UInt8 → Nat
  | [] => 0
  | c :: r => (c.toNat - 48) * 10 ^ r.length + valD r

theorem valD_append (l r : List UInt8) : valD (l ++ r) = valD l * 10 ^ r.length + valD r := by
  induction l with
  | nil => simp [valD]
  | cons c l ih =>
    simp only [List.cons_append, valD, ih, List.length_append, Nat.pow_add, Nat.add_mul]
    rw [← Nat.mul_assoc]; omega

theorem dig_le {c : UInt8} (h : isDig c = true) : 48 ≤ c.toNat ∧ c.toNat ≤ 57 := by
  have := (isDig_iff c).1 h; omega

theorem valD_lt (l : List UInt8) (h : l.all isDig = true) : valD l < 10 ^ l.length := by
  induction l with
  | nil => simp [valD]
  | cons c l ih =>
    simp only [List.all_cons, Bool.and_eq_true] at h
    have := dig_le h.1
    have ih := ih h.2
    have : (c.toNat - 48) * 10 ^ l.length ≤ 9 * 10 ^ l.length := Nat.mul_le_mul_right _ (by omega)
    simp only [valD, List.length_cons, Nat.pow_succ]
    omega

theorem eq_of_val : ∀ (a b : List UInt8), a.all isDig = true → b.all isDig = true → a.length = b.length → valD a = valD b → a = b
  | [], [], _, _, _, _ => rfl
  | [], _ :: _, _, _, h, _ => by simp at h
  | _ :: _, [], _, _, h, _ => by simp at h
  | c :: a, d :: b, ha, hb, hl, hv => by
    simp only [List.all_cons, Bool.and_eq_true] at ha hb
    have hl' : a.length = b.length := by simpa using hl
    have l1 := valD_lt a ha.2
    have l2 := valD_lt b hb.2
    have c1 := dig_le ha.1
    have c2 := dig_le hb.1
    simp only [valD] at hv
    rw [← hl'] at hv l2
    have key : c.toNat - 48 = d.toNat - 48 ∧ valD a = valD b := by
      generalize c.toNat - 48 = p at *
      generalize d.toNat - 48 = q at *
      generalize 10 ^ a.length = B at *
      rcases Nat.lt_trichotomy p q with h | h | h
      · have : (p + 1) * B ≤ q * B := Nat.mul_le_mul_right _ h
        rw [Nat.add_mul, Nat.one_mul] at this
        omega
      · subst h; exact ⟨rfl, by omega⟩
      · have : (q + 1) * B ≤ p * B := Nat.mul_le_mul_right _ h
        rw [Nat.add_mul, Nat.one_mul] at this
        omega
    have : c = d := UInt8.toNat_inj.1 (by omega)
    rw [this, eq_of_val a b ha.2 hb.2 hl' key.2]

/-- The digit of N at place p. -/
def digAt (N p : Nat) : UInt8 := UInt8.ofNat (48 + N / 10 ^ p % 10)
/-- The n digits of N from place lo on, the highest first. -/
def digsOf (N lo : Nat) : Nat → List UInt8
  | 0 => []
  | n + 1 => digAt N (lo + n) :: digsOf N lo n

theorem digAt_toNat (N p : Nat) : (digAt N p).toNat = 48 + N / 10 ^ p % 10 := by
  unfold digAt
  have : N / 10 ^ p % 10 < 10 := Nat.mod_lt _ (by omega)
  rw [UInt8.toNat_ofNat']
  omega
theorem digAt_dig (N p : Nat) : isDig (digAt N p) = true := by
  rw [isDig_iff, digAt_toNat]
  have : N / 10 ^ p % 10 < 10 := Nat.mod_lt _ (by omega)
  omega
theorem digsOf_len (N lo n : Nat) : (digsOf N lo n).length = n := by
  induction n with
  | zero => rfl
  | succ n ih => simp [digsOf, ih]
theorem digsOf_dig (N lo n : Nat) : (digsOf N lo n).all isDig = true := by
  induction n with
  | zero => rfl
  | succ n ih => simp [digsOf, ih, digAt_dig]
theorem digsOf_val (N lo n : Nat) : valD (digsOf N lo n) = N / 10 ^ lo % 10 ^ n := by
  induction n with
  | zero => simp [digsOf, valD, Nat.mod_one]
  | succ n ih =>
    simp only [digsOf, valD, ih, digsOf_len, digAt_toNat]
    rw [Nat.pow_add, ← Nat.div_div_eq_div_mul, Nat.add_sub_cancel_left, Nat.pow_succ]
    generalize N / 10 ^ lo = M
    rw [Nat.mod_mul, Nat.mul_comm (M / 10 ^ n % 10)]
    omega

theorem rep_dig (k : Nat) : (List.replicate k (48 : UInt8)).all isDig = true := by
  induction k with
  | zero => rfl
  | succ k ih => rw [List.replicate_succ, List.all_cons, ih]; rfl
theorem rep_val (k : Nat) : valD (List.replicate k (48 : UInt8)) = 0 := by
  induction k with
  | zero => rfl
  | succ k ih => rw [List.replicate_succ]; simp [valD, ih]

theorem trimL_rep (k : Nat) (l : List UInt8) : Lib.trimLeftB (List.replicate k 48 ++ l) 48 = Lib.trimLeftB l 48 := by
  unfold Lib.trimLeftB
  induction k with
  | zero => simp
  | succ k ih => rw [List.replicate_succ, List.cons_append, List.dropWhile_cons, if_pos (by simp)]; exact ih
theorem trimR_rep (k : Nat) (l : List UInt8) : Lib.trimRightB (l ++ List.replicate k 48) 48 = Lib.trimRightB l 48 := by
  have := trimL_rep k l.reverse
  unfold Lib.trimLeftB at this
  unfold Lib.trimRightB
  rw [List.reverse_append, List.reverse_replicate, this]

/-- The text of N scaled by 10 ^ 54. -/
def wrN (neg : Bool) (N : Nat) : Option (List UInt8) := wr neg (digsOf N 54 90) (digsOf N 0 54)

theorem trimL_val (a b : List UInt8) (ha : a.all isDig = true) (hb : b.all isDig = true) (hv : valD a = valD b) : Lib.trimLeftB a 48 = Lib.trimLeftB b 48 := by
  rcases Nat.le_total a.length b.length with h | h
  · rw [← trimL_rep (b.length - a.length) a]
    congr 1
    exact eq_of_val _ _ (by rw [List.all_append, rep_dig, ha]; rfl) hb (by simp; omega) (by rw [valD_append, rep_val]; omega)
  · rw [← trimL_rep (a.length - b.length) b]
    congr 1
    exact eq_of_val _ _ ha (by rw [List.all_append, rep_dig, hb]; rfl) (by simp; omega) (by rw [valD_append, rep_val]; omega)
theorem trimR_val (a b : List UInt8) (ha : a.all isDig = true) (hb : b.all isDig = true) (n : Nat) (la : a.length ≤ n) (lb : b.length ≤ n) (hv : valD a * 10 ^ (n - a.length) = valD b * 10 ^ (n - b.length)) : Lib.trimRightB a 48 = Lib.trimRightB b 48 := by
  rw [← trimR_rep (n - a.length) a, ← trimR_rep (n - b.length) b]
  congr 1
  exact eq_of_val _ _ (by rw [List.all_append, rep_dig, ha]; rfl) (by rw [List.all_append, rep_dig, hb]; rfl) (by simp; omega) (by rw [valD_append, valD_append, rep_val, rep_val, List.length_replicate, List.length_replicate]; omega)

theorem wr_congr (neg : Bool) {a a' b b' : List UInt8} (h : Lib.trimLeftB a 48 = Lib.trimLeftB a' 48) (k : Lib.trimRightB b 48 = Lib.trimRightB b' 48) : wr neg a b = wr neg a' b' := by
  unfold wr; rw [h, k]

/-- Digits, however many noughts are needless, are written as their number is. -/
theorem wr_wrN (neg : Bool) (a b : List UInt8) (ha : a.all isDig = true) (hb : b.all isDig = true) (hv : valD a < 10 ^ 90) (lb : b.length ≤ 54) :
    wr neg a b = wrN neg (valD a * 10 ^ 54 + valD b * 10 ^ (54 - b.length)) := by
  have hlt : valD b * 10 ^ (54 - b.length) < 10 ^ 54 := by
    have h1 := valD_lt b hb
    have h2 : 10 ^ b.length * 10 ^ (54 - b.length) = 10 ^ 54 := by rw [← Nat.pow_add]; congr 1; omega
    have h3 : valD b * 10 ^ (54 - b.length) < 10 ^ b.length * 10 ^ (54 - b.length) := Nat.mul_lt_mul_of_pos_right h1 (Nat.pow_pos (by omega))
    omega
  unfold wrN
  refine wr_congr neg (trimL_val _ _ ha (digsOf_dig _ _ _) ?_) (trimR_val _ _ hb (digsOf_dig _ _ _) 54 lb (by rw [digsOf_len]; omega) ?_)
  · rw [digsOf_val, Nat.mul_comm, Nat.mul_add_div (Nat.pow_pos (by omega)), Nat.div_eq_of_lt hlt, Nat.add_zero, Nat.mod_eq_of_lt hv]
  · rw [digsOf_val, digsOf_len, Nat.sub_self, Nat.pow_zero, Nat.mul_one, Nat.div_one, Nat.add_comm, Nat.add_mul_mod_self_right, Nat.mod_eq_of_lt hlt]

end Go.Proofs.YtabgilmehehbjaaDoor
