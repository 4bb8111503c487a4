/- Facts of the order and of a cut quotient; the law's own abs. -/
import Derived.Test.YtabgilmehehbjaaDoorE
namespace Go.Proofs.YtabgilmehehbjaaDoor
open Go.RowKit

theorem cmpZ_sub (x y : Int) : cmpZ (x - y) 0 = cmpZ x y := by unfold cmpZ; split <;> split <;> (try split) <;> (try split) <;> omega
theorem cmpZ_add (x y z : Int) : cmpZ (x + z) (y + z) = cmpZ x y := by unfold cmpZ; split <;> split <;> (try split) <;> (try split) <;> omega
theorem cmpZ_tr (x y z : Int) (h : cmpZ x y ≤ 0) (k : cmpZ y z ≤ 0) : cmpZ x z ≤ 0 := by
  unfold cmpZ at *
  split at h <;> split at k <;> (try split at h) <;> (try split at k) <;> split <;> (try split) <;> omega
theorem cmpZ_tr2 (x y z : Int) (h : cmpZ x y < 0) (k : cmpZ y z ≤ 0) : cmpZ x z < 0 := by
  unfold cmpZ at *
  split at h <;> split at k <;> (try split at h) <;> (try split at k) <;> split <;> (try split) <;> omega
theorem cmpZ_le {x y : Int} (h : x ≤ y) : cmpZ x y ≤ 0 := by unfold cmpZ; split <;> (try split) <;> omega
theorem cmpZ_lt {x y : Int} (h : x < y) : cmpZ x y = -1 := by unfold cmpZ; rw [if_pos h]
theorem chk00 : chk [48, 46, 48] = true := by kernel_rfl
theorem val00 : dval [48, 46, 48] = 0 := by kernel_rfl
/-- The smallest amount. -/
def ulp : List UInt8 := [48, 46, 48, 48, 48, 48, 48, 48, 48, 48, 48, 48, 48, 48, 48, 48, 48, 48, 48, 48, 48, 49]
theorem chkUlp : chk ulp = true := by kernel_rfl
theorem amtUlp : damt ulp = 10 ^ 34 := by kernel_rfl

theorem cut_nat (A C p14 p20 p34 p54 : Nat) (h34 : p34 = p14 * p20) (h68 : p34 * p34 = p14 * p54) (h54 : 0 < p54) (h20 : 0 < p20) (hC : 0 < C * p34) :
    A * p20 / (C * p34) * p34 * (C * p34) / p54 ≤ A ∧ A - A * p20 / (C * p34) * p34 * (C * p34) / p54 < C * p34 * p34 / p54 := by
  generalize ht : A * p20 / (C * p34) = t
  have e1 : t * p34 * (C * p34) / p54 = t * C * p14 := by
    rw [show t * p34 * (C * p34) = t * C * p14 * p54 by rw [Nat.mul_mul_mul_comm, h68, Nat.mul_assoc (t * C)]]
    exact Nat.mul_div_cancel _ h54
  have e2 : C * p34 * p34 / p54 = C * p14 := by
    rw [show C * p34 * p34 = C * p14 * p54 by rw [Nat.mul_assoc, h68, Nat.mul_assoc]]
    exact Nat.mul_div_cancel _ h54
  rw [e1, e2]
  have f1 : t * (C * p34) ≤ A * p20 := by rw [← ht]; exact Nat.div_mul_le_self _ _
  have f2 : A * p20 < (t + 1) * (C * p34) := by
    rw [← ht, Nat.mul_comm _ (C * p34)]; exact Nat.lt_mul_div_succ _ hC
  have g1 : t * (C * p34) = t * C * p14 * p20 := by rw [h34]; simp only [Nat.mul_assoc]
  have g2 : (t + 1) * (C * p34) = (t * C * p14 + C * p14) * p20 := by
    rw [Nat.add_mul, g1, Nat.one_mul, Nat.add_mul, h34]; simp only [Nat.mul_assoc]
  rw [g1] at f1
  rw [g2] at f2
  have k1 := Nat.le_of_mul_le_mul_right f1 h20
  have k2 := Nat.lt_of_mul_lt_mul_right f2
  omega

theorem cut_nat2 (A C Q M U p14 p20 p34 p54 : Nat) (h34 : p34 = p14 * p20) (h68 : p34 * p34 = p14 * p54) (h54 : 0 < p54) (h20 : 0 < p20) (h0 : C ≠ 0) (hc : C = C / p34 * p34)
    (hq : Q = A * p20 / C * p34) (hm : M = Q * C / p54) (hu : U = C * p34 / p54) : M ≤ A ∧ A - M < U := by
  have N := cut_nat A (C / p34) p14 p20 p34 p54 h34 h68 h54 h20 (by rw [← hc]; omega)
  rw [← hc] at N
  rw [hm, hu, hq]
  exact N
theorem p34' : (10 : Nat) ^ 34 = 10 ^ 14 * 10 ^ 20 := by decide
theorem damt_abs (l : List UInt8) : damt l = (dval l).natAbs := by unfold dval; rw [natAbs_sv]

theorem dquo_lt {l r : List UInt8} (h : chk l = true) (h2 : chk r = true) (h0 : damt r ≠ 0) : (dquo l r).natAbs < 10 ^ 144 := by
  unfold dquo
  rw [natAbs_sv]
  have hl := dval_lt h
  rw [← damt_abs] at hl
  have hr := exact34 (chk_dec r h2).2.2.1
  generalize damt l = A at *
  generalize damt r = C at *
  have h1 : 1 ≤ C / 10 ^ 34 := by
    rcases Nat.eq_zero_or_pos (C / 10 ^ 34) with e | e
    · rw [e, Nat.zero_mul] at hr; exact absurd hr h0
    · exact e
  have h3 : (10 : Nat) ^ 34 ≤ C := by
    rw [hr]; exact Nat.le_trans (by rw [Nat.one_mul]; exact Nat.le_refl _) (Nat.mul_le_mul_right (10 ^ 34) h1)
  have h4 : A * 10 ^ 20 / C * 10 ^ 34 ≤ A * 10 ^ 20 := Nat.le_trans (Nat.mul_le_mul_left _ h3) (Nat.div_mul_le_self _ _)
  have h5 : A * 10 ^ 20 < 10 ^ 94 * 10 ^ 20 := Nat.mul_lt_mul_of_pos_right hl (by decide)
  exact Nat.lt_of_le_of_lt h4 (Nat.lt_of_lt_of_le h5 (by decide))

theorem sv_sub (n : Bool) (A M : Nat) (h : M ≤ A) : (sv n A - sv n M).natAbs = A - M := by
  unfold sv
  cases n
  · simp only [Bool.false_eq_true, if_false]; omega
  · simp only [if_true]; omega
theorem sv_inj {x y : Bool} {q : Nat} (h : q ≠ 0) (e : sv x q = sv y q) : x = y := by
  unfold sv at e
  cases x <;> cases y <;> simp at e ⊢ <;> omega
theorem mul0 {C D : Nat} : 0 * C / D = 0 := by rw [Nat.zero_mul, Nat.zero_div]

theorem cut_sign {A C Q M : Nat} {x y z : Bool} {v : Int} (D : Nat) (hq : sv z Q = sv (x != y) Q) (hm : M = Q * C / D) (hv : v = sv (z != y) M) (hle : M ≤ A) : (sv x A - v).natAbs = A - M := by
  rw [hv]
  by_cases h : M = 0
  · subst h
    have : sv (z != y) 0 = sv x 0 := by unfold sv; cases (z != y) <;> cases x <;> rfl
    rw [this]
    exact sv_sub x A 0 hle
  · have hq0 : Q ≠ 0 := fun e => h (by rw [hm, e, mul0])
    have := sv_inj hq0 hq
    subst this
    rw [show ((x != y) != y) = x by cases x <;> cases y <;> rfl]
    exact sv_sub x A M hle

theorem cut_facts {a c l1 l2 l3 l4 : List UInt8} (hc : chk c = true) (h0 : damt c ≠ 0) (d1 : dval l1 = dquo a c) (d2 : dval l2 = dmul l1 c) (d3 : dval l3 = dval a - dval l2) (d4 : dval l4 = dmul c ulp) :
    (dval l2).natAbs ≤ (dval a).natAbs ∧ (dval l3).natAbs < (dval l4).natAbs := by
  have q : damt l1 = damt a * 10 ^ 20 / damt c * 10 ^ 34 := by rw [damt_abs, d1]; unfold dquo; rw [natAbs_sv]
  have m : (dval l2).natAbs = damt l1 * damt c / 10 ^ 54 := by rw [d2]; unfold dmul; rw [natAbs_sv]
  have u : (dval l4).natAbs = damt c * 10 ^ 34 / 10 ^ 54 := by rw [d4]; unfold dmul; rw [natAbs_sv, amtUlp]
  have hr := exact34 (chk_dec c hc).2.2.1
  have N := cut_nat2 (damt a) (damt c) _ _ _ (10 ^ 14) (10 ^ 20) (10 ^ 34) (10 ^ 54) p34' p68 (by decide) (by decide) h0 hr q m u
  have e1 : sv (dsign l1) (damt l1) = sv (dsign a != dsign c) (damt l1) := by
    have := d1
    unfold dquo at this
    rw [← q] at this
    exact this
  have e2 : dval l2 = sv (dsign l1 != dsign c) (dval l2).natAbs := by
    rw [m]
    exact d2
  have s := cut_sign _ e1 m e2 N.1
  rw [show sv (dsign a) (damt a) = dval a from rfl, ← d3] at s
  rw [s, ← damt_abs a]
  exact N

theorem absAt (s : ByteArray) (h : chk s.data.toList = true) : ∃ y : ByteArray, y.size < 4294967281 ∧ chk y.data.toList = true ∧ dval y.data.toList = ((dval s.data.toList).natAbs : Int) ∧
    ∀ W, Gd W → Calls Tryd.prog 34 #[.string s] W fun e w' => e = .returned (.string y) ∧ Below W.heap.size W w' := by
  have ls := chk_len h
  have zs : s.size < 4294967281 := by
    have e : s.data.toList.length = s.size := Array.length_toList
    omega
  have F1 : ∀ W, Gd W → Calls Tryd.prog 20 #[.string s, .string ⟨#[48, 46, 48]⟩] W fun e w' => e = .returned (.int .i64 (cmpZ (dval s.data.toList) 0)) ∧ Below W.heap.size W w' := fun W hW => by
    have := cmpYes s ⟨#[48, 46, 48]⟩ W hW zs (by decide) h chk00
    rw [show (ByteArray.mk #[48, 46, 48]).data.toList = [48, 46, 48] from rfl, val00] at this
    exact this
  by_cases hlt : dval s.data.toList < 0
  · obtain ⟨na, ena⟩ := txt_neg (chk_dec _ h).1
    have hal := dval_lt h
    have big : (10 : Nat) ^ 94 + 10 ^ 94 ≤ 10 ^ 144 := by decide
    obtain ⟨cna, dna⟩ := txt_dec _ (by rw [Int.natAbs_neg]; omega) na ena
    have lna := chk_len cna
    refine ⟨bs na, by (have e : (bs na).data.toList.length = (bs na).size := Array.length_toList); (rw [show (bs na).data.toList = na from rfl] at e); omega, cna, by rw [show (bs na).data.toList = na from rfl, dna]; omega, ?_⟩
    intro W hW
    rw [cmpZ_lt hlt] at F1
    have F2 : ∀ W, Gd W → Calls Tryd.prog 30 #[.string s] W fun e w' => e = .returned (.tuple #[.string (bs na), .int .i64 0]) ∧ Below W.heap.size W w' := fun W hW => negYes s W hW zs h (bs na) 0 (by rw [ena]; rfl)
    have G1 := Lib.hid F1
    have G2 := Lib.hid F2
    clear F1 F2 h ls hal big cna dna lna hlt ena
    generalize bs na = NA at *
    go_enter Tryd.func34, Tryd.ntmps34
    go_wp2_with (first
      | (go_at_call 20; (with_reducible refine (G1.out _ hW).mono ?_); rintro e w1 ⟨rfl, hb1⟩; have g1 := hW.below hb1)
      | (go_at_call 30; (with_reducible refine (G2.out _ g1).mono ?_); rintro e w2 ⟨rfl, hb2⟩; have hb3 := below_any hb1 hb2 hb1.size))
    go_ret
    exact ⟨rfl, hb3⟩
  · refine ⟨s, zs, h, by omega, ?_⟩
    intro W hW
    obtain ⟨r, hr, hr0⟩ : ∃ r, r = cmpZ (dval s.data.toList) 0 ∧ ¬ r < 0 := ⟨_, rfl, by unfold cmpZ; rw [if_neg hlt]; split <;> omega⟩
    rw [← hr] at F1
    have G1 := Lib.hid F1
    clear F1 h ls hlt hr
    go_enter Tryd.func34, Tryd.ntmps34
    go_wp2_with (go_at_call 20; (with_reducible refine (G1.out _ hW).mono ?_); rintro e w1 ⟨rfl, hb1⟩)
    go_ret
    exact ⟨rfl, hb1⟩
end Go.Proofs.YtabgilmehehbjaaDoor
