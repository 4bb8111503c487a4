/- Decimals as whole numbers scaled by 10 ^ 54, and back. No Go stands here. -/
import Derived.Test.YtabgilmehehbjaaDoorD2
namespace Go.Proofs.YtabgilmehehbjaaDoor

/-- A signed amount. -/
def sv (n : Bool) (x : Nat) : Int := if n then -(x : Int) else x
/-- What a decimal is as a number: its sign, its amount scaled by 10 ^ 54. -/
def dsign (l : List UInt8) : Bool := ((splitP l).getD (false, [], [])).1
def damt (l : List UInt8) : Nat := num54 ((splitP l).getD (false, [], [])).2.1 ((splitP l).getD (false, [], [])).2.2
def dval (l : List UInt8) : Int := sv (dsign l) (damt l)
/-- The text of a number scaled by 10 ^ 54, if it may be. -/
def txt (z : Int) : Option (List UInt8) := wrN (decide (z < 0)) z.natAbs

theorem wr_zero (n m : Bool) (a b : List UInt8) (ha : a.all isDig = true) (hb : b.all isDig = true) (h1 : valD a = 0) (h2 : valD b = 0) : wr n a b = wr m a b := by
  unfold wr
  simp only [(trimL_nil ha).2 h1, (trimR_nil hb).2 h2, List.append_nil, List.isEmpty_nil, Bool.not_true, Bool.and_false]

theorem wrN_sv (r : Bool) (x : Nat) : wrN r x = txt (sv r x) := by
  unfold txt sv
  cases r
  · simp only [Bool.false_eq_true, if_false]
    rw [Int.natAbs_natCast, decide_eq_false (by omega)]
  · simp only [if_true]
    rw [Int.natAbs_neg, Int.natAbs_natCast]
    by_cases h : x = 0
    · subst h
      exact wr_zero _ _ _ _ (digsOf_dig _ _ _) (digsOf_dig _ _ _) (by simp [digsOf_val]) (by simp [digsOf_val])
    · rw [decide_eq_true (by omega)]

theorem num54_facts (a b : List UInt8) (ha : a.all isDig = true) (hb : b.all isDig = true) (la : a.length ≤ 40) (lb : b.length ≤ 20) : num54 a b < 10 ^ 94 ∧ num54 a b % 10 ^ 34 = 0 := by
  have h1 := valD_lt a ha
  have h2 := valD_lt b hb
  have h3 : 10 ^ a.length ≤ 10 ^ 40 := Nat.pow_le_pow_right (by omega) la
  have h4 : valD b * 10 ^ (54 - b.length) < 10 ^ b.length * 10 ^ (54 - b.length) := Nat.mul_lt_mul_of_pos_right h2 (Nat.pow_pos (by omega))
  rw [← Nat.pow_add, show b.length + (54 - b.length) = 54 by omega] at h4
  unfold num54
  constructor
  · have h5 : (valD a + 1) * 10 ^ 54 ≤ 10 ^ 40 * 10 ^ 54 := Nat.mul_le_mul_right _ (by omega)
    rw [← Nat.pow_add, Nat.add_mul] at h5
    omega
  · have e1 : 10 ^ 54 = 10 ^ 20 * 10 ^ 34 := by rw [← Nat.pow_add]
    have e2 : 10 ^ (54 - b.length) = 10 ^ (20 - b.length) * 10 ^ 34 := by rw [← Nat.pow_add]; congr 1; omega
    rw [e1, e2, ← Nat.mul_assoc, ← Nat.mul_assoc, ← Nat.add_mul, Nat.mul_mod_left]

/-- What a decimal is. -/
theorem chk_dec (l : List UInt8) (h : chk l = true) : txt (dval l) = some l ∧ damt l < 10 ^ 94 ∧ damt l % 10 ^ 34 = 0 ∧ (dsign l = true → damt l ≠ 0) ∧
    ∃ a b, splitP l = some (dsign l, a, b) ∧ a.all isDig = true ∧ b.all isDig = true ∧ a.length ≤ 40 ∧ b.length ≤ 20 ∧ damt l = num54 a b := by
  obtain ⟨n, a, b, hsp, ha, hb, la, lb, hw, hz⟩ := chk_parts l h
  have e1 : dsign l = n := by unfold dsign; rw [hsp]; rfl
  have e2 : damt l = num54 a b := by unfold damt; rw [hsp]; rfl
  obtain ⟨f1, f2⟩ := num54_facts a b ha hb la lb
  have hlt := valD_lt a ha
  have h90 : 10 ^ a.length ≤ 10 ^ 90 := Nat.pow_le_pow_right (by omega) (by omega)
  refine ⟨?_, by rw [e2]; exact f1, by rw [e2]; exact f2, ?_, a, b, by rw [e1]; exact hsp, ha, hb, la, lb, e2⟩
  · unfold dval
    rw [← wrN_sv, e1, e2, ← hw, wr_wrN n a b ha hb (by omega) (by omega)]
    rfl
  · rw [e1, e2]
    intro hn h0
    apply hz hn
    unfold num54 at h0
    have p1 : 0 < 10 ^ (54 - b.length) := Nat.pow_pos (by omega)
    rcases Nat.add_eq_zero_iff.1 h0 with ⟨q1, q2⟩
    rw [Nat.mul_eq_zero] at q1 q2
    exact ⟨by omega, by omega⟩

/-- What a number's text is. -/
theorem txt_dec (z : Int) (hz : z.natAbs < 10 ^ 144) (t : List UInt8) (h : txt z = some t) : chk t = true ∧ dval t = z := by
  unfold txt wrN at h
  obtain ⟨x, y, hsp, hx, hy, lx, ly, v1, v2, hc⟩ := wr_back _ _ _ t (digsOf_dig _ _ _) (digsOf_dig _ _ _) h
  refine ⟨hc, ?_⟩
  have e2 : damt t = z.natAbs := by
    unfold damt
    rw [hsp]
    show num54 x y = _
    unfold num54
    have := v2 54 (by rw [digsOf_len]; omega) (by omega)
    rw [digsOf_len, Nat.sub_self, Nat.pow_zero, Nat.mul_one, digsOf_val, Nat.pow_zero, Nat.div_one] at this
    rw [this, v1, digsOf_val]
    have h1 : z.natAbs / 10 ^ 54 < 10 ^ 90 := by
      rw [Nat.div_lt_iff_lt_mul (Nat.pow_pos (by omega)), ← Nat.pow_add]; exact hz
    rw [Nat.mod_eq_of_lt h1, Nat.mul_comm]
    exact Nat.div_add_mod _ _
  have e1 : dsign t = (decide (z < 0) && !(decide (z.natAbs = 0))) := by
    unfold dsign
    rw [hsp]
    have h1 : z.natAbs / 10 ^ 54 < 10 ^ 90 := by
      rw [Nat.div_lt_iff_lt_mul (Nat.pow_pos (by omega)), ← Nat.pow_add]; exact hz
    have hd := Nat.div_add_mod z.natAbs (10 ^ 54)
    have e : (decide (valD (digsOf z.natAbs 54 90) = 0) && decide (valD (digsOf z.natAbs 0 54) = 0)) = decide (z.natAbs = 0) := by
      rw [digsOf_val, digsOf_val, Nat.pow_zero, Nat.div_one, Nat.mod_eq_of_lt h1, ← Bool.decide_and, decide_eq_decide]
      constructor
      · rintro ⟨a, b⟩
        rw [a, b] at hd
        omega
      · intro a
        rw [a]
        exact ⟨Nat.zero_div _, Nat.zero_mod _⟩
    rw [← e]
    rfl
  unfold dval sv
  rw [e1, e2]
  by_cases hn : z < 0
  · have : ¬ z.natAbs = 0 := by omega
    simp [hn, this]
    omega
  · simp [hn]
    omega

end Go.Proofs.YtabgilmehehbjaaDoor
