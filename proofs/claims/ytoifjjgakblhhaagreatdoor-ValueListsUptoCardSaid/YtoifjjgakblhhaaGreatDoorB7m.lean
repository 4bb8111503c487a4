/- Div, Neg, Compare. -/
import Derived.Test.YtoifjjgakblhhaaGreatDoorGb
import Derived.Test.YtoifjjgakblhhaaGreatDoorB3m
import Derived.Test.YtoifjjgakblhhaaGreatDoorGf
import Derived.Test.YtoifjjgakblhhaaGreatDoorGa
namespace Go.Proofs.YtoifjjgakblhhaaGreatDoor
open Go.RowKit

theorem quo_text (l r : List UInt8) (h : chk l = true) (h2 : chk r = true) (h0 : damt r ≠ 0) :
    wr (dsign l != dsign r) (digsOf (damt l * 10 ^ 20 / damt r) 20 144) (digsOf (damt l * 10 ^ 20 / damt r) 0 20) = txt (dquo l r) := by
  obtain ⟨_, a1, _⟩ := chk_dec l h
  obtain ⟨_, _, b2, _⟩ := chk_dec r h2
  have hr : 10 ^ 34 ≤ damt r := by
    have := Nat.div_add_mod (damt r) (10 ^ 34)
    rw [b2] at this
    have hp : 1 ≤ damt r / 10 ^ 34 := by
      by_cases e : damt r / 10 ^ 34 = 0
      · rw [e] at this; omega
      · omega
    have : 10 ^ 34 * 1 ≤ 10 ^ 34 * (damt r / 10 ^ 34) := Nat.mul_le_mul_left _ hp
    omega
  obtain ⟨Q, hQ⟩ : ∃ Q, Q = damt l * 10 ^ 20 / damt r := ⟨_, rfl⟩
  unfold dquo
  rw [← hQ, ← wrN_sv]
  have hQlt : Q / 10 ^ 20 < 10 ^ 90 := by
    have h1 : Q ≤ damt l * 10 ^ 20 / 10 ^ 34 := by rw [hQ]; exact Nat.div_le_div_left hr (by decide)
    have h3 : damt l * 10 ^ 20 / 10 ^ 34 ≤ damt l * 10 ^ 20 := Nat.div_le_self _ _
    rw [Nat.div_lt_iff_lt_mul (by decide)]
    have h4 : damt l * 10 ^ 20 / 10 ^ 34 < 10 ^ 80 := by
      rw [Nat.div_lt_iff_lt_mul (by decide)]
      have : damt l * 10 ^ 20 < 10 ^ 94 * 10 ^ 20 := Nat.mul_lt_mul_of_pos_right a1 (by decide)
      rw [← Nat.pow_add] at this ⊢
      exact this
    have h5 : (10 : Nat) ^ 80 ≤ 10 ^ 90 * 10 ^ 20 := by decide
    omega
  have v1 : valD (digsOf Q 20 144) = Q / 10 ^ 20 := by
    rw [digsOf_val, Nat.mod_eq_of_lt]
    have : (10 : Nat) ^ 90 ≤ 10 ^ 144 := by decide
    omega
  rw [wr_wrN _ _ _ (digsOf_dig _ _ _) (digsOf_dig _ _ _) (by rw [v1]; exact hQlt) (by rw [digsOf_len]; omega), v1, digsOf_val, digsOf_len, Nat.pow_zero, Nat.div_one]
  have e : (10 : Nat) ^ 54 = 10 ^ 20 * 10 ^ 34 := by rw [← Nat.pow_add]
  have key : Q / 10 ^ 20 * 10 ^ 54 + Q % 10 ^ 20 * 10 ^ (54 - 20) = Q * 10 ^ 34 := by
    rw [show 54 - 20 = 34 by omega, e, ← Nat.mul_assoc, ← Nat.add_mul, Nat.mul_comm (Q / 10 ^ 20), Nat.div_add_mod]
  rw [key]

set_option maxRecDepth 20000 in
set_option maxHeartbeats 1600000 in
theorem divNo (s t : ByteArray) (w : World) (hG : Gd w) (hs : s.size < 4294967281) (ht : t.size < 4294967281) (h : chk s.data.toList = false ∨ chk t.data.toList = false) :
    Calls Tryz.prog 141 #[.string s, .string t] w fun e w' => e = .returned (.tuple #[.string ⟨#[]⟩, .int .i64 1]) ∧ Below w.heap.size w w' := by
  have hc : ∀ W, Gd W → Calls Tryz.prog 128 #[.string s, .string t] W fun e w' => e = .returned (.tuple #[.agg zero59, .agg zero59, .bool false]) ∧ Below W.heap.size W w' := fun W hW => by
    by_cases h1 : chk s.data.toList = true
    · exact bothNo2 s t W hW hs ht h1 (by rcases h with h | h; rw [h] at h1; cases h1; exact h)
    · exact bothNo1 s t W hW hs (by simpa using h1)
  have HC := Lib.hid hc
  clear hc h hs ht
  go_enter Tryz.func141, Tryz.ntmps141
  go_wp2_with (first
    | (go_at_call 128; (with_reducible refine (HC.out _ hG).mono ?_); rintro e w1 ⟨rfl, hb⟩; have l1 : Lies ((w1.alloc (.cells #[.bool false, .int .u32 0, .int .u32 0, .int .u32 0, .int .u32 0, .int .u32 0, .int .u32 0, .int .u32 0, .int .u32 0, .int .u32 0, .int .u32 0, .int .u32 0, .int .u32 0, .int .u32 0, .int .u32 0, .int .u32 0, .int .u32 0] 136)).alloc (.cells #[.bool false, .int .u32 0, .int .u32 0, .int .u32 0, .int .u32 0, .int .u32 0, .int .u32 0, .int .u32 0, .int .u32 0, .int .u32 0, .int .u32 0, .int .u32 0, .int .u32 0, .int .u32 0, .int .u32 0, .int .u32 0, .int .u32 0] 136)) w1.heap.size zero59 false (fun _ => 0) := (lies_zero _ rfl).alloc _; have l2 : Lies ((w1.alloc (.cells #[.bool false, .int .u32 0, .int .u32 0, .int .u32 0, .int .u32 0, .int .u32 0, .int .u32 0, .int .u32 0, .int .u32 0, .int .u32 0, .int .u32 0, .int .u32 0, .int .u32 0, .int .u32 0, .int .u32 0, .int .u32 0, .int .u32 0] 136)).alloc (.cells #[.bool false, .int .u32 0, .int .u32 0, .int .u32 0, .int .u32 0, .int .u32 0, .int .u32 0, .int .u32 0, .int .u32 0, .int .u32 0, .int .u32 0, .int .u32 0, .int .u32 0, .int .u32 0, .int .u32 0, .int .u32 0, .int .u32 0] 136)) (w1.heap.size + 1) zero59 false (fun _ => 0) := lies_zero _ (by simp); have hb1 : Below w.heap.size w ((w1.alloc (.cells #[.bool false, .int .u32 0, .int .u32 0, .int .u32 0, .int .u32 0, .int .u32 0, .int .u32 0, .int .u32 0, .int .u32 0, .int .u32 0, .int .u32 0, .int .u32 0, .int .u32 0, .int .u32 0, .int .u32 0, .int .u32 0, .int .u32 0] 136)).alloc (.cells #[.bool false, .int .u32 0, .int .u32 0, .int .u32 0, .int .u32 0, .int .u32 0, .int .u32 0, .int .u32 0, .int .u32 0, .int .u32 0, .int .u32 0, .int .u32 0, .int .u32 0, .int .u32 0, .int .u32 0, .int .u32 0, .int .u32 0] 136)) := (hb.alloc hb.size _).alloc (by have := hb.size; simp; omega) _; have hsz := hb.size)
    | ((with_reducible refine wpList_storeN (.tmp 6) (.tmp 15) w1.heap.size (by assumption) isNum_zero ?_ ?_ ?_ ?_ ?_); rfl; rfl; rfl; rfl; intro w2 ho p1; have p2 := l2.only ho (by omega); have hb2 := below_only hb1 ho hsz (Nat.le_of_lt (Nat.lt_of_le_of_lt hsz l1.lt)))
    | ((with_reducible refine wpList_storeN (.tmp 7) (.tmp 16) (w1.heap.size + 1) (by assumption) isNum_zero ?_ ?_ ?_ ?_ ?_); rfl; rfl; rfl; rfl; intro w3 ho3 q2; have q1 := p1.only ho3 (by omega); have hb3 := below_only hb2 ho3 (by omega) (Nat.le_of_lt (Nat.lt_of_le_of_lt hsz p1.lt))))
  go_ret2
  exact ⟨rfl, hb3⟩

set_option maxRecDepth 20000 in
set_option maxHeartbeats 1600000 in
theorem cmpNo (s t : ByteArray) (w : World) (hG : Gd w) (hs : s.size < 4294967281) (ht : t.size < 4294967281) (h : chk s.data.toList = false ∨ chk t.data.toList = false) :
    Calls Tryz.prog 91 #[.string s, .string t] w fun e w' => e = .returned (.int .i64 0) ∧ Below w.heap.size w w' := by
  have hc : ∀ W, Gd W → Calls Tryz.prog 128 #[.string s, .string t] W fun e w' => e = .returned (.tuple #[.agg zero59, .agg zero59, .bool false]) ∧ Below W.heap.size W w' := fun W hW => by
    by_cases h1 : chk s.data.toList = true
    · exact bothNo2 s t W hW hs ht h1 (by rcases h with h | h; rw [h] at h1; cases h1; exact h)
    · exact bothNo1 s t W hW hs (by simpa using h1)
  have HC := Lib.hid hc
  clear hc h hs ht
  go_enter Tryz.func91, Tryz.ntmps91
  go_wp2_with (first
    | (go_at_call 128; (with_reducible refine (HC.out _ hG).mono ?_); rintro e w1 ⟨rfl, hb⟩; have l1 : Lies ((w1.alloc (.cells #[.bool false, .int .u32 0, .int .u32 0, .int .u32 0, .int .u32 0, .int .u32 0, .int .u32 0, .int .u32 0, .int .u32 0, .int .u32 0, .int .u32 0, .int .u32 0, .int .u32 0, .int .u32 0, .int .u32 0, .int .u32 0, .int .u32 0] 136)).alloc (.cells #[.bool false, .int .u32 0, .int .u32 0, .int .u32 0, .int .u32 0, .int .u32 0, .int .u32 0, .int .u32 0, .int .u32 0, .int .u32 0, .int .u32 0, .int .u32 0, .int .u32 0, .int .u32 0, .int .u32 0, .int .u32 0, .int .u32 0] 136)) w1.heap.size zero59 false (fun _ => 0) := (lies_zero _ rfl).alloc _; have l2 : Lies ((w1.alloc (.cells #[.bool false, .int .u32 0, .int .u32 0, .int .u32 0, .int .u32 0, .int .u32 0, .int .u32 0, .int .u32 0, .int .u32 0, .int .u32 0, .int .u32 0, .int .u32 0, .int .u32 0, .int .u32 0, .int .u32 0, .int .u32 0, .int .u32 0] 136)).alloc (.cells #[.bool false, .int .u32 0, .int .u32 0, .int .u32 0, .int .u32 0, .int .u32 0, .int .u32 0, .int .u32 0, .int .u32 0, .int .u32 0, .int .u32 0, .int .u32 0, .int .u32 0, .int .u32 0, .int .u32 0, .int .u32 0, .int .u32 0] 136)) (w1.heap.size + 1) zero59 false (fun _ => 0) := lies_zero _ (by simp); have hb1 : Below w.heap.size w ((w1.alloc (.cells #[.bool false, .int .u32 0, .int .u32 0, .int .u32 0, .int .u32 0, .int .u32 0, .int .u32 0, .int .u32 0, .int .u32 0, .int .u32 0, .int .u32 0, .int .u32 0, .int .u32 0, .int .u32 0, .int .u32 0, .int .u32 0, .int .u32 0] 136)).alloc (.cells #[.bool false, .int .u32 0, .int .u32 0, .int .u32 0, .int .u32 0, .int .u32 0, .int .u32 0, .int .u32 0, .int .u32 0, .int .u32 0, .int .u32 0, .int .u32 0, .int .u32 0, .int .u32 0, .int .u32 0, .int .u32 0, .int .u32 0] 136)) := (hb.alloc hb.size _).alloc (by have := hb.size; simp; omega) _; have hsz := hb.size)
    | ((with_reducible refine wpList_storeN (.tmp 5) (.tmp 12) w1.heap.size (by assumption) isNum_zero ?_ ?_ ?_ ?_ ?_); rfl; rfl; rfl; rfl; intro w2 ho p1; have p2 := l2.only ho (by omega); have hb2 := below_only hb1 ho hsz (Nat.le_of_lt (Nat.lt_of_le_of_lt hsz l1.lt)))
    | ((with_reducible refine wpList_storeN (.tmp 6) (.tmp 13) (w1.heap.size + 1) (by assumption) isNum_zero ?_ ?_ ?_ ?_ ?_); rfl; rfl; rfl; rfl; intro w3 ho3 q2; have q1 := p1.only ho3 (by omega); have hb3 := below_only hb2 ho3 (by omega) (Nat.le_of_lt (Nat.lt_of_le_of_lt hsz p1.lt))))
  go_ret
  exact ⟨rfl, hb3⟩

theorem cmpS_val (l r : List UInt8) (h : chk l = true) (h2 : chk r = true) : cmpS (dsign l) (damt l) (dsign r) (damt r) = cmpZ (dval l) (dval r) := by
  have a := (chk_dec l h).2.2.2.1
  have b := (chk_dec r h2).2.2.2.1
  unfold dval sv cmpS cmpZ cmpI
  generalize damt l = x at *
  generalize damt r = y at *
  cases h3 : dsign l <;> cases h4 : dsign r <;> simp only [h3, h4, Bool.false_eq_true, if_false, if_true, Bool.not_true, Bool.not_false, Bool.and_true, Bool.and_false, Bool.false_and, Bool.true_and, Bool.and_self, Int.ofNat_lt, Int.neg_lt_neg_iff] at *
  · have := b trivial
    rw [if_neg (by omega), if_pos (by omega)]
  · have := a trivial
    rw [if_pos (by omega)]

set_option maxRecDepth 20000 in
set_option maxHeartbeats 1600000 in
theorem cmpYes (s t : ByteArray) (w : World) (hG : Gd w) (hs : s.size < 4294967281) (ht : t.size < 4294967281) (h : chk s.data.toList = true) (h2 : chk t.data.toList = true) :
    Calls Tryz.prog 91 #[.string s, .string t] w fun e w' => e = .returned (.int .i64 (cmpZ (dval s.data.toList) (dval t.data.toList))) ∧ Below w.heap.size w w' := by
  have hc : ∀ W, Gd W → Calls Tryz.prog 128 #[.string s, .string t] W fun e w' => ∃ c d f g, e = .returned (.tuple #[.agg c, .agg d, .bool true]) ∧ IsNum c (dsign s.data.toList) f ∧ wval f = damt s.data.toList ∧
      IsNum d (dsign t.data.toList) g ∧ wval g = damt t.data.toList ∧ Below W.heap.size W w' := fun W hW => bothYes s t W hW hs ht h h2
  have HC := Lib.hid hc
  obtain ⟨r, hr⟩ : ∃ r, r = cmpZ (dval s.data.toList) (dval t.data.toList) := ⟨_, rfl⟩
  have hcm : ∀ (c d : Array Value) (f g : Nat → Nat) W, IsNum c (dsign s.data.toList) f → wval f = damt s.data.toList → IsNum d (dsign t.data.toList) g → wval g = damt t.data.toList → Calls Tryz.prog 129 #[.agg c, .agg d] W fun e w' => e = .returned (.int .i64 r) ∧ Below W.heap.size W w' := fun c d f g W hc e1 hd e2 => by
    have := cmpNum c d _ _ f g W hc hd
    rwa [e1, e2, cmpS_val _ _ h h2, ← hr] at this
  have HCM := Lib.hid hcm
  rw [← hr]
  clear hc hcm h h2 hs ht hr
  go_enter Tryz.func91, Tryz.ntmps91
  go_wp2_with (first
    | (go_at_call 128; (with_reducible refine (HC.out _ hG).mono ?_); rintro e w1 ⟨c, d, f, g, rfl, hn, hx, hm, hy, hb⟩; have HX := Lib.hid hx; have HY := Lib.hid hy; clear hx hy; have l1 : Lies ((w1.alloc (.cells #[.bool false, .int .u32 0, .int .u32 0, .int .u32 0, .int .u32 0, .int .u32 0, .int .u32 0, .int .u32 0, .int .u32 0, .int .u32 0, .int .u32 0, .int .u32 0, .int .u32 0, .int .u32 0, .int .u32 0, .int .u32 0, .int .u32 0] 136)).alloc (.cells #[.bool false, .int .u32 0, .int .u32 0, .int .u32 0, .int .u32 0, .int .u32 0, .int .u32 0, .int .u32 0, .int .u32 0, .int .u32 0, .int .u32 0, .int .u32 0, .int .u32 0, .int .u32 0, .int .u32 0, .int .u32 0, .int .u32 0] 136)) w1.heap.size zero59 false (fun _ => 0) := (lies_zero _ rfl).alloc _; have l2 : Lies ((w1.alloc (.cells #[.bool false, .int .u32 0, .int .u32 0, .int .u32 0, .int .u32 0, .int .u32 0, .int .u32 0, .int .u32 0, .int .u32 0, .int .u32 0, .int .u32 0, .int .u32 0, .int .u32 0, .int .u32 0, .int .u32 0, .int .u32 0, .int .u32 0] 136)).alloc (.cells #[.bool false, .int .u32 0, .int .u32 0, .int .u32 0, .int .u32 0, .int .u32 0, .int .u32 0, .int .u32 0, .int .u32 0, .int .u32 0, .int .u32 0, .int .u32 0, .int .u32 0, .int .u32 0, .int .u32 0, .int .u32 0, .int .u32 0] 136)) (w1.heap.size + 1) zero59 false (fun _ => 0) := lies_zero _ (by simp); have hb1 : Below w.heap.size w ((w1.alloc (.cells #[.bool false, .int .u32 0, .int .u32 0, .int .u32 0, .int .u32 0, .int .u32 0, .int .u32 0, .int .u32 0, .int .u32 0, .int .u32 0, .int .u32 0, .int .u32 0, .int .u32 0, .int .u32 0, .int .u32 0, .int .u32 0, .int .u32 0] 136)).alloc (.cells #[.bool false, .int .u32 0, .int .u32 0, .int .u32 0, .int .u32 0, .int .u32 0, .int .u32 0, .int .u32 0, .int .u32 0, .int .u32 0, .int .u32 0, .int .u32 0, .int .u32 0, .int .u32 0, .int .u32 0, .int .u32 0, .int .u32 0] 136)) := (hb.alloc hb.size _).alloc (by have := hb.size; simp; omega) _; have hsz := hb.size)
    | ((with_reducible refine wpList_storeN (.tmp 5) (.tmp 12) w1.heap.size (by assumption) hn ?_ ?_ ?_ ?_ ?_); rfl; rfl; rfl; rfl; intro w2 ho p1; have p2 := l2.only ho (by omega); have hb2 := below_only hb1 ho hsz (Nat.le_of_lt (Nat.lt_of_le_of_lt hsz l1.lt)))
    | ((with_reducible refine wpList_storeN (.tmp 6) (.tmp 13) (w1.heap.size + 1) (by assumption) hm ?_ ?_ ?_ ?_ ?_); rfl; rfl; rfl; rfl; intro w3 ho3 q2; have q1 := p1.only ho3 (by omega); have hb3 := below_only hb2 ho3 (by omega) (Nat.le_of_lt (Nat.lt_of_le_of_lt hsz p1.lt)))
    | ((with_reducible refine wpList_loadN (.tmp 5) w1.heap.size (by assumption) ?_ ?_ ?_ ?_); rfl; rfl; rfl)
    | ((with_reducible refine wpList_loadN (.tmp 6) (w1.heap.size + 1) (by assumption) ?_ ?_ ?_ ?_); rfl; rfl; rfl)
    | (go_at_call 129; (with_reducible refine (HCM.out c d f g _ hn HX.out hm HY.out).mono ?_); rintro e w4 ⟨rfl, hb4⟩; have hb5 := below_any hb3 hb4 hb3.size))
  go_ret
  exact ⟨rfl, hb5⟩

end Go.Proofs.YtoifjjgakblhhaaGreatDoor
