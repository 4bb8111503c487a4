/- Texts of one kind, one behind the other: each says ahead of itself what it shows. -/
import Derived.Test.YtoifjjgakblhhaaGreatDoorHag
import Derived.Test.YtoifjjgakblhhaaGreatDoorHaf
import Derived.WalkMore
import Derived.Deep.LoopGhost
import Derived.OwnWalk
import Derived.Test.YtoifjjgakblhhaaGreatDoorHae
/- plus. -/
namespace Go.Proofs.YtoifjjgakblhhaaGreatDoor
open Go.RowKit

theorem AddTo.done {f g h : Nat → Nat} {c : Nat} (H : AddTo f g h c 16) (hs : wval f + wval g < BASE ^ 16) : wval h = wval f + wval g := by
  have s := H.sum
  have hc : c = 0 := by
    by_cases e : c = 0
    · exact e
    · have : 1 * BASE ^ 16 ≤ c * BASE ^ 16 := Nat.mul_le_mul_right _ (by omega)
      unfold wval at hs; omega
  subst hc
  unfold wval at *; omega

theorem TakeFrom.done {f g h : Nat → Nat} {c : Nat} (H : TakeFrom f g h c 16) (hs : wval g ≤ wval f) (hf : Words f) : wval h + wval g = wval f := by
  have s := H.sum
  have hl := vN_lt h H.words 16 (by omega)
  have hc : c = 0 := by
    by_cases e : c = 0
    · exact e
    · have : 1 * BASE ^ 16 ≤ c * BASE ^ 16 := Nat.mul_le_mul_right _ (by omega)
      unfold wval at hs; omega
  subst hc
  unfold wval; omega

theorem below3 (w : World) (a b c : Obj) : Below w.heap.size w (((w.alloc a).alloc b).alloc c) := (((Below.refl _ _).alloc (Nat.le_refl _) _).alloc (by simp) _).alloc (by simp; omega) _

set_option maxHeartbeats 800000 in
theorem plusSame (c d : Array Value) (n : Bool) (f g : Nat → Nat) (w : World) (hc : IsNum c n f) (hd : IsNum d n g) :
    Calls Tryz.prog 160 #[.agg c, .agg d] w fun e w' => ∃ c' h cr, e = .returned (.agg c') ∧ IsNum c' n h ∧ AddTo f g h cr 16 ∧ Below w.heap.size w w' := by
  have l1 : Lies (((w.alloc (.cells c 136)).alloc (.cells d 136)).alloc (.cells #[.bool false, .int .u32 0, .int .u32 0, .int .u32 0, .int .u32 0, .int .u32 0, .int .u32 0, .int .u32 0, .int .u32 0, .int .u32 0, .int .u32 0, .int .u32 0, .int .u32 0, .int .u32 0, .int .u32 0, .int .u32 0, .int .u32 0] 136)) w.heap.size c n f := ((lies_new w hc rfl).alloc _).alloc _
  have l2 : Lies (((w.alloc (.cells c 136)).alloc (.cells d 136)).alloc (.cells #[.bool false, .int .u32 0, .int .u32 0, .int .u32 0, .int .u32 0, .int .u32 0, .int .u32 0, .int .u32 0, .int .u32 0, .int .u32 0, .int .u32 0, .int .u32 0, .int .u32 0, .int .u32 0, .int .u32 0, .int .u32 0, .int .u32 0] 136)) (w.heap.size + 1) d n g := (lies_new _ hd (by simp)).alloc _
  have l3 : Lies (((w.alloc (.cells c 136)).alloc (.cells d 136)).alloc (.cells #[.bool false, .int .u32 0, .int .u32 0, .int .u32 0, .int .u32 0, .int .u32 0, .int .u32 0, .int .u32 0, .int .u32 0, .int .u32 0, .int .u32 0, .int .u32 0, .int .u32 0, .int .u32 0, .int .u32 0, .int .u32 0, .int .u32 0] 136)) (w.heap.size + 1 + 1) zero59 false (fun _ => 0) := lies_zero _ (by simp)
  have h0 := l1.cell0
  have h1 := l2.cell0
  have hb := below3 w (.cells c 136) (.cells d 136) (.cells #[.bool false, .int .u32 0, .int .u32 0, .int .u32 0, .int .u32 0, .int .u32 0, .int .u32 0, .int .u32 0, .int .u32 0, .int .u32 0, .int .u32 0, .int .u32 0, .int .u32 0, .int .u32 0, .int .u32 0, .int .u32 0, .int .u32 0] 136)
  go_enter Tryz.func160, Tryz.ntmps160
  go_wp2_with (first
      | ((with_reducible refine wpList_loadN (.tmp 2) w.heap.size (by assumption) ?_ ?_ ?_ ?_); rfl; rfl; rfl)
      | ((with_reducible refine wpList_loadN (.tmp 3) (w.heap.size + 1) (by assumption) ?_ ?_ ?_ ?_); rfl; rfl; rfl)
      | (go_at_call 181; (with_reducible refine (addAmt w.heap.size c d n n f g _ l1.heap hc hd).mono ?_); rintro e w1 ⟨rfl, ho, c', h, cr, hh, hn, ha⟩; have k1 : Lies w1 w.heap.size c' n h := lies_mk hh hn; clear hh; have k3 := l3.only ho (by omega); have hb1 := below_only hb ho (Nat.le_refl _) (by simp; omega))
      | ((with_reducible refine wpList_storeN (.tmp 4) (.tmp 12) (w.heap.size + 1 + 1) (by assumption) hn ?_ ?_ ?_ ?_ ?_); rfl; rfl; rfl; rfl; intro w2 ho2 m3; have hb2 := below_only hb1 ho2 (by omega) (Nat.le_of_lt k1.lt)))
  exact bodyPost_ret (v := .agg c') (results_num (p := 4) Tryz.results160 _ rfl m3) rfl ⟨c', h, cr, rfl, hn, ha, hb2⟩

set_option maxHeartbeats 800000 in
theorem plusDiffGe (c d : Array Value) (n : Bool) (f g : Nat → Nat) (w : World) (hc : IsNum c n f) (hd : IsNum d (!n) g) (hge : wval g ≤ wval f) :
    Calls Tryz.prog 160 #[.agg c, .agg d] w fun e w' => ∃ c' h cr, e = .returned (.agg c') ∧ IsNum c' n h ∧ TakeFrom f g h cr 16 ∧ Below w.heap.size w w' := by
  obtain ⟨r, hr, hcmp⟩ : ∃ r : Int, 0 ≤ r ∧ ∀ W, Calls Tryz.prog 152 #[.agg c, .agg d] W fun e w' => e = .returned (.int .i64 r) ∧ Below W.heap.size W w' :=
    ⟨cmpI (wval f) (wval g), by unfold cmpI; split <;> first | omega | (split <;> omega), fun W => cmpAmt c d _ _ _ _ hc hd W⟩
  have HC := Lib.hid hcmp
  clear hcmp
  have l1 : Lies (((w.alloc (.cells c 136)).alloc (.cells d 136)).alloc (.cells #[.bool false, .int .u32 0, .int .u32 0, .int .u32 0, .int .u32 0, .int .u32 0, .int .u32 0, .int .u32 0, .int .u32 0, .int .u32 0, .int .u32 0, .int .u32 0, .int .u32 0, .int .u32 0, .int .u32 0, .int .u32 0, .int .u32 0] 136)) w.heap.size c n f := ((lies_new w hc rfl).alloc _).alloc _
  have l2 : Lies (((w.alloc (.cells c 136)).alloc (.cells d 136)).alloc (.cells #[.bool false, .int .u32 0, .int .u32 0, .int .u32 0, .int .u32 0, .int .u32 0, .int .u32 0, .int .u32 0, .int .u32 0, .int .u32 0, .int .u32 0, .int .u32 0, .int .u32 0, .int .u32 0, .int .u32 0, .int .u32 0, .int .u32 0] 136)) (w.heap.size + 1) d (!n) g := (lies_new _ hd (by simp)).alloc _
  have l3 : Lies (((w.alloc (.cells c 136)).alloc (.cells d 136)).alloc (.cells #[.bool false, .int .u32 0, .int .u32 0, .int .u32 0, .int .u32 0, .int .u32 0, .int .u32 0, .int .u32 0, .int .u32 0, .int .u32 0, .int .u32 0, .int .u32 0, .int .u32 0, .int .u32 0, .int .u32 0, .int .u32 0, .int .u32 0] 136)) (w.heap.size + 1 + 1) zero59 false (fun _ => 0) := lies_zero _ (by simp)
  have h0 := l1.cell0
  have h1 := l2.cell0
  have hb := below3 w (.cells c 136) (.cells d 136) (.cells #[.bool false, .int .u32 0, .int .u32 0, .int .u32 0, .int .u32 0, .int .u32 0, .int .u32 0, .int .u32 0, .int .u32 0, .int .u32 0, .int .u32 0, .int .u32 0, .int .u32 0, .int .u32 0, .int .u32 0, .int .u32 0, .int .u32 0] 136)
  have hne : (n == !n) = false := by cases n <;> rfl
  go_enter Tryz.func160, Tryz.ntmps160
  go_wp2_with (first
      | ((with_reducible refine wpList_loadN (.tmp 2) w.heap.size (by assumption) ?_ ?_ ?_ ?_); rfl; rfl; rfl)
      | ((with_reducible refine wpList_loadN (.tmp 3) (w.heap.size + 1) (by assumption) ?_ ?_ ?_ ?_); rfl; rfl; rfl)
      | (go_at_call 152; (with_reducible refine (HC.out _).mono ?_); rintro e w1 ⟨rfl, hbel⟩; have k1 := l1.below hbel; have k2 := l2.below hbel; have k3 := l3.below hbel; have hb1 := below_any hb hbel (by simp; omega))
      | (go_at_call 182; (with_reducible refine (takeAmt w.heap.size c d n (!n) f g _ k1.heap hc hd).mono ?_); rintro e w2 ⟨rfl, ho, c', h, cr, hh, hn, ha⟩; have p1 : Lies w2 w.heap.size c' n h := lies_mk hh hn; clear hh; have p3 := k3.only ho (by omega); have hb2 := below_only hb1 ho (Nat.le_refl _) (Nat.le_of_lt k1.lt))
      | ((with_reducible refine wpList_storeN (.tmp 4) (.tmp 21) (w.heap.size + 1 + 1) (by assumption) hn ?_ ?_ ?_ ?_ ?_); rfl; rfl; rfl; rfl; intro w3 ho2 m3; have hb3 := below_only hb2 ho2 (by omega) (Nat.le_of_lt p1.lt)))
  exact bodyPost_ret (v := .agg c') (results_num (p := 4) Tryz.results160 _ rfl m3) rfl ⟨c', h, cr, rfl, hn, ha, hb3⟩

set_option maxHeartbeats 800000 in
theorem plusDiffLt (c d : Array Value) (n : Bool) (f g : Nat → Nat) (w : World) (hc : IsNum c n f) (hd : IsNum d (!n) g) (hlt : wval f < wval g) :
    Calls Tryz.prog 160 #[.agg c, .agg d] w fun e w' => ∃ c' h cr, e = .returned (.agg c') ∧ IsNum c' (!n) h ∧ TakeFrom g f h cr 16 ∧ Below w.heap.size w w' := by
  have hcmp : ∀ W, Calls Tryz.prog 152 #[.agg c, .agg d] W fun e w' => e = .returned (.int .i64 (-1)) ∧ Below W.heap.size W w' :=
    fun W => by have := cmpAmt c d _ _ _ _ hc hd W; rwa [cmpI_lt hlt] at this
  have HC := Lib.hid hcmp
  clear hcmp
  have l1 : Lies (((w.alloc (.cells c 136)).alloc (.cells d 136)).alloc (.cells #[.bool false, .int .u32 0, .int .u32 0, .int .u32 0, .int .u32 0, .int .u32 0, .int .u32 0, .int .u32 0, .int .u32 0, .int .u32 0, .int .u32 0, .int .u32 0, .int .u32 0, .int .u32 0, .int .u32 0, .int .u32 0, .int .u32 0] 136)) w.heap.size c n f := ((lies_new w hc rfl).alloc _).alloc _
  have l2 : Lies (((w.alloc (.cells c 136)).alloc (.cells d 136)).alloc (.cells #[.bool false, .int .u32 0, .int .u32 0, .int .u32 0, .int .u32 0, .int .u32 0, .int .u32 0, .int .u32 0, .int .u32 0, .int .u32 0, .int .u32 0, .int .u32 0, .int .u32 0, .int .u32 0, .int .u32 0, .int .u32 0, .int .u32 0] 136)) (w.heap.size + 1) d (!n) g := (lies_new _ hd (by simp)).alloc _
  have l3 : Lies (((w.alloc (.cells c 136)).alloc (.cells d 136)).alloc (.cells #[.bool false, .int .u32 0, .int .u32 0, .int .u32 0, .int .u32 0, .int .u32 0, .int .u32 0, .int .u32 0, .int .u32 0, .int .u32 0, .int .u32 0, .int .u32 0, .int .u32 0, .int .u32 0, .int .u32 0, .int .u32 0, .int .u32 0] 136)) (w.heap.size + 1 + 1) zero59 false (fun _ => 0) := lies_zero _ (by simp)
  have h0 := l1.cell0
  have h1 := l2.cell0
  have hb := below3 w (.cells c 136) (.cells d 136) (.cells #[.bool false, .int .u32 0, .int .u32 0, .int .u32 0, .int .u32 0, .int .u32 0, .int .u32 0, .int .u32 0, .int .u32 0, .int .u32 0, .int .u32 0, .int .u32 0, .int .u32 0, .int .u32 0, .int .u32 0, .int .u32 0, .int .u32 0] 136)
  have hne : (n == !n) = false := by cases n <;> rfl
  go_enter Tryz.func160, Tryz.ntmps160
  go_wp2_with (first
      | ((with_reducible refine wpList_loadN (.tmp 2) w.heap.size (by assumption) ?_ ?_ ?_ ?_); rfl; rfl; rfl)
      | ((with_reducible refine wpList_loadN (.tmp 3) (w.heap.size + 1) (by assumption) ?_ ?_ ?_ ?_); rfl; rfl; rfl)
      | (go_at_call 152; (with_reducible refine (HC.out _).mono ?_); rintro e w1 ⟨rfl, hbel⟩; have k1 := l1.below hbel; have k2 := l2.below hbel; have k3 := l3.below hbel; have hb1 := below_any hb hbel (by simp; omega))
      | ((with_reducible refine wpList_storeN (.tmp 2) (.tmp 17) w.heap.size (by assumption) hd ?_ ?_ ?_ ?_ ?_); rfl; rfl; rfl; rfl; intro w2 ho2 q1; have q2 := k2.only ho2 (by omega); have q3 := k3.only ho2 (by omega); have hb2 := below_only hb1 ho2 (Nat.le_refl _) (Nat.le_of_lt k1.lt))
      | ((with_reducible refine wpList_storeN (.tmp 3) (.tmp 18) (w.heap.size + 1) (by assumption) hc ?_ ?_ ?_ ?_ ?_); rfl; rfl; rfl; rfl; intro w3 ho3 r2; have r1 := q1.only ho3 (by omega); have r3 := q3.only ho3 (by omega); have hb3 := below_only hb2 ho3 (by omega) (Nat.le_of_lt q1.lt))
      | (go_at_call 182; (with_reducible refine (takeAmt w.heap.size d c (!n) n g f _ r1.heap hd hc).mono ?_); rintro e w4 ⟨rfl, ho, c', h, cr, hh, hn, ha⟩; have p1 : Lies w4 w.heap.size c' (!n) h := lies_mk hh hn; clear hh; have p3 := r3.only ho (by omega); have hb4 := below_only hb3 ho (Nat.le_refl _) (Nat.le_of_lt r1.lt))
      | ((with_reducible refine wpList_storeN (.tmp 4) (.tmp 21) (w.heap.size + 1 + 1) (by assumption) hn ?_ ?_ ?_ ?_ ?_); rfl; rfl; rfl; rfl; intro w5 ho5 m3; have hb5 := below_only hb4 ho5 (by omega) (Nat.le_of_lt p1.lt)))
  exact bodyPost_ret (v := .agg c') (results_num (p := 4) Tryz.results160 _ rfl m3) rfl ⟨c', h, cr, rfl, hn, ha, hb5⟩

/-- The sum of two signed amounts. -/
theorem plusNum (c d : Array Value) (n m : Bool) (f g : Nat → Nat) (w : World) (hc : IsNum c n f) (hd : IsNum d m g) (hs : wval f + wval g < BASE ^ 16) :
    Calls Tryz.prog 160 #[.agg c, .agg d] w fun e w' => ∃ c' r h, e = .returned (.agg c') ∧ IsNum c' r h ∧ sv r (wval h) = sv n (wval f) + sv m (wval g) ∧ Below w.heap.size w w' := by
  by_cases e : m = n
  · subst e
    refine (plusSame c d m f g w hc hd).mono ?_
    rintro e w' ⟨c', h, cr, rfl, hn, ha, hb⟩
    exact ⟨c', m, h, rfl, hn, by rw [ha.done hs]; unfold sv; split <;> omega, hb⟩
  · obtain rfl : m = !n := by cases m <;> cases n <;> simp_all
    by_cases hl : wval f < wval g
    · refine (plusDiffLt c d n f g w hc hd hl).mono ?_
      rintro e w' ⟨c', h, cr, rfl, hn, ha, hb⟩
      refine ⟨c', !n, h, rfl, hn, ?_, hb⟩
      have := ha.done (by omega) hd.lt
      unfold sv; cases n <;> simp <;> omega
    · refine (plusDiffGe c d n f g w hc hd (by omega)).mono ?_
      rintro e w' ⟨c', h, cr, rfl, hn, ha, hb⟩
      refine ⟨c', n, h, rfl, hn, ?_, hb⟩
      have := ha.done (by omega) hc.lt
      unfold sv; cases n <;> simp <;> omega

end Go.Proofs.YtoifjjgakblhhaaGreatDoor

/- Long division, digit by digit. No Go stands here. -/
namespace Go.Proofs.YtoifjjgakblhhaaGreatDoor

/-- The digits qs have been found of the first t of 164 digits of N by m; R is left. -/
structure OverTo (N m t R : Nat) (qs : List UInt8) : Prop where
  len : qs.length = t
  dig : qs.all isDig = true
  eq : valD qs * m + R = N / 10 ^ (164 - t)
  lt : R < m

theorem OverTo.zero {N m : Nat} (hN : N < 10 ^ 164) (hm : 0 < m) : OverTo N m 0 0 [] :=
  ⟨rfl, rfl, by rw [Nat.sub_zero, Nat.div_eq_of_lt hN]; simp [valD], hm⟩

/-- A digit as a sign. -/
def digB (j : Nat) : UInt8 := UInt8.ofNat (48 + j)
theorem digB_toNat {j : Nat} (h : j ≤ 9) : (digB j).toNat = 48 + j := by
  unfold digB; rw [UInt8.toNat_ofNat']; omega
theorem digB_dig {j : Nat} (h : j ≤ 9) : isDig (digB j) = true := by
  rw [isDig_iff, digB_toNat h]; omega

theorem OverTo.step {N m t R R' j : Nat} {qs : List UInt8} (H : OverTo N m t R qs) (ht : t < 164) (hj : j ≤ 9) (he : R' + j * m = R * 10 + N / 10 ^ (163 - t) % 10) (hl : R' < m) :
    OverTo N m (t + 1) R' (qs ++ [digB j]) := by
  refine ⟨by simp [H.len], by rw [List.all_append, H.dig, Bool.true_and, List.all_cons, digB_dig hj]; rfl, ?_, hl⟩
  have e1 : 164 - t = 163 - t + 1 := by omega
  have e := H.eq
  rw [e1, Nat.pow_succ, ← Nat.div_div_eq_div_mul] at e
  have e2 : 164 - (t + 1) = 163 - t := by omega
  rw [e2, valD_append]
  have e3 : valD [digB j] = j := by simp [valD, digB_toNat hj]
  rw [e3]
  simp only [List.length_singleton, Nat.pow_one]
  have d := Nat.div_add_mod (N / 10 ^ (163 - t)) 10
  generalize N / 10 ^ (163 - t) = P at *
  rw [← e] at d
  have : (valD qs * 10 + j) * m = 10 * (valD qs * m) + j * m := by rw [Nat.add_mul, Nat.mul_right_comm, Nat.mul_comm]
  rw [this]
  omega

theorem OverTo.digit_le {N m t R j R' : Nat} {qs : List UInt8} (H : OverTo N m t R qs) {dg : Nat} (hd : dg ≤ 9) (he : R' + j * m = R * 10 + dg) (hge : m ≤ R') : j + 1 ≤ 9 := by
  have h := H.lt
  have h1 : (R + 1) * 10 ≤ m * 10 := Nat.mul_le_mul_right _ h
  by_cases hj : j + 1 ≤ 9
  · exact hj
  · have : 9 * m ≤ j * m := Nat.mul_le_mul_right _ (by omega)
    omega

theorem OverTo.done {N m R : Nat} {qs : List UInt8} (H : OverTo N m 164 R qs) : qs = digsOf (N / m) 0 164 := by
  have e := H.eq
  rw [Nat.sub_self, Nat.pow_zero, Nat.div_one] at e
  have hq : N / m = valD qs := by
    rw [← e]
    have := H.lt
    rw [Nat.mul_comm, Nat.mul_add_div (by omega), Nat.div_eq_of_lt this, Nat.add_zero]
  have hl := valD_lt qs H.dig
  rw [H.len] at hl
  refine eq_of_val _ _ H.dig (digsOf_dig _ _ _) (by rw [H.len, digsOf_len]) ?_
  rw [digsOf_val, Nat.pow_zero, Nat.div_one, hq, Nat.mod_eq_of_lt hl]

theorem digsOf_split (N : Nat) (a b : Nat) : ∀ lo, digsOf N lo (a + b) = digsOf N (lo + b) a ++ digsOf N lo b := by
  intro lo
  induction a with
  | zero => simp [digsOf]
  | succ a ih =>
    rw [show a + 1 + b = (a + b) + 1 by omega]
    simp only [digsOf, ih, List.cons_append]
    congr 2
    omega

theorem PushTo.done {f h : Nat → Nat} {d c : Nat} (H : PushTo f d h c 16) (hs : wval f * 10 + d < BASE ^ 16) : wval h = wval f * 10 + d := by
  have s := H.sum
  have hc : c = 0 := by
    by_cases e : c = 0
    · exact e
    · have : 1 * BASE ^ 16 ≤ c * BASE ^ 16 := Nat.mul_le_mul_right _ (by omega)
      unfold wval at hs; omega
  subst hc
  unfold wval at *; omega

theorem digAt_shift (N q : Nat) : digAt (N * 10 ^ 20) (q + 20) = digAt N q := by
  unfold digAt
  rw [Nat.pow_add, Nat.mul_comm (10 ^ q), ← Nat.div_div_eq_div_mul, Nat.mul_div_cancel _ (Nat.pow_pos (by omega))]
theorem digAt_low (N q : Nat) (h : q < 20) : digAt (N * 10 ^ 20) q = 48 := by
  unfold digAt
  have e : N * 10 ^ 20 = (N * 10 ^ (19 - q) * 10) * 10 ^ q := by
    rw [Nat.mul_assoc, Nat.mul_assoc]
    congr 1
    rw [← Nat.mul_assoc, ← Nat.pow_succ, ← Nat.pow_add]
    congr 1; omega
  rw [e, Nat.mul_div_cancel _ (Nat.pow_pos (by omega)), Nat.mul_mod_left]
  rfl

end Go.Proofs.YtoifjjgakblhhaaGreatDoor

/- over: the quotient's digits. -/
namespace Go.Proofs.YtoifjjgakblhhaaGreatDoor
open Go.RowKit

theorem digitX (c : Array Value) (n : Bool) (f : Nat → Nat) (p : Int) (w : World) (hc : IsNum c n f) (h0 : -20 ≤ p) (h1 : p ≤ 143) (v : Int) (hv : Hid (v = (digAt (wval f * 10 ^ 20) (p + 20).toNat).toNat)) :
    Calls Tryz.prog 185 #[.agg c, .int .i64 p] w fun e w' => e = .returned (.int .u8 v) ∧ Below w.heap.size w w' := by
  by_cases hp : p < 0
  · have e : v = 48 := by rw [hv.out, digAt_low _ _ (by omega)]; rfl
    rw [e]
    exact digitBelow c p w hp
  · obtain ⟨q, rfl⟩ := Int.eq_ofNat_of_zero_le (show 0 ≤ p by omega)
    refine digitVal c n f q w hc (by omega) v (Lib.hid ?_)
    rw [hv.out, show ((q : Int) + 20).toNat = q + 20 by omega, digAt_shift]

theorem Only.grown {b : Nat} {w w' : World} (h : Only b w w') : w.grownBy w' (some b) :=
  ⟨h.os, h.tape, h.output, h.size, fun k hk e => h.block k hk (by rintro rfl; exact e rfl)⟩
theorem below_grown {w w' : World} (h : Below w.heap.size w w') : w.grownBy w' none :=
  ⟨h.os, h.tape, h.output, h.size, fun k hk _ => h.block k hk⟩

theorem info5 : (Tryz.prog.info? 5).map (fun i => (i.zero, i.size, i.bytes)) = some (some (.int .u8 0), 1, 1) := by kernel_rfl

theorem below4 (w : World) (a b c d : Obj) : Below w.heap.size w ((((w.alloc a).alloc b).alloc c).alloc d) := (below3 w a b c).alloc (by simp; omega) _

theorem Lies.grown {w w' : World} {g b : Nat} {c : Array Value} {n : Bool} {f : Nat → Nat} (h : Lies w g c n f) (k : w.grownBy w' (some b)) (e : g ≠ b) : Lies w' g c n f :=
  ⟨(k.block g (lt_of_heap h.1) (by simpa using e)).trans h.1, h.2⟩

/-- The bytes of a list, as values. -/
def vals (l : List UInt8) : List Value := l.map fun b => .int .u8 (b.toNat : Int)
theorem vals_snoc (l : List UInt8) (j : Nat) (h : j ≤ 9) : vals (l ++ [digB j]) = vals l ++ [.int .u8 (48 + (j : Int))] := by
  unfold vals
  rw [List.map_append, List.map_cons, List.map_nil, digB_toNat h]
  rfl

theorem ownsRow_start (w : World) {g : Nat} (e : w.heap.size = g) : (w.alloc (.cells (Array.replicate 164 (.int .u8 0)) 5)).ownsRow g 5 1 (.slice (some ⟨g, 0, none⟩) 0 164) 0 (vals []) := by
  refine ⟨rfl, .inr ⟨g, 164, _, rfl, Nat.le_refl _, heap_new _ _ e, by omega, by unfold maxLen; omega, by simp, rfl⟩⟩

set_option maxRecDepth 20000 in
set_option maxHeartbeats 1600000 in
theorem overAt (c d : Array Value) (n m : Bool) (f g : Nat → Nat) (w : World) (hc : IsNum c n f) (hd : IsNum d m g) (hm : 0 < wval g) (hm2 : wval g * 10 ≤ BASE ^ 16) (X Y : ByteArray)
    (HX : Hid (X = bs (digsOf (wval f * 10 ^ 20 / wval g) 20 144))) (HY : Hid (Y = bs (digsOf (wval f * 10 ^ 20 / wval g) 0 20))) :
    Calls Tryz.prog 164 #[.agg c, .agg d] w fun e w' => e = .returned (.tuple #[.string X, .string Y]) ∧ Below w.heap.size w w' := by
  have hmk : ∀ W, (Instr.makeSlice 40 (.int .i64 0) (.int .i64 164)).run Tryz.prog W = .ok (.slice (some ⟨W.heap.size, 0, none⟩) 0 164) (W.alloc (.cells (Array.replicate 164 (.int .u8 0)) 5)) := fun _ => by kernel_rfl
  have hN : wval f * 10 ^ 20 < 10 ^ 164 := by
    have h1 := wval_lt f hc.lt
    have h2 : BASE ^ 16 = 10 ^ 144 := base_pow 16
    have h3 : wval f * 10 ^ 20 < 10 ^ 144 * 10 ^ 20 := Nat.mul_lt_mul_of_pos_right (by omega) (Nat.pow_pos (by omega))
    rw [← Nat.pow_add] at h3
    exact h3
  obtain ⟨N, hNN⟩ : ∃ N, N = wval f * 10 ^ 20 := ⟨_, rfl⟩
  obtain ⟨M, hMM⟩ : ∃ M, M = wval g := ⟨_, rfl⟩
  have O0 : OverTo N M 0 0 [] := by rw [hNN, hMM]; exact OverTo.zero hN hm
  rw [← hMM] at hm hm2
  have HNN := Lib.hid hNN
  have HMM := Lib.hid hMM
  have HM2 := Lib.hid hm2
  clear hN hNN hMM hm2
  have l1 : Lies ((((w.alloc (.cells c 136)).alloc (.cells d 136)).alloc (.cells #[.bool false, .int .u32 0, .int .u32 0, .int .u32 0, .int .u32 0, .int .u32 0, .int .u32 0, .int .u32 0, .int .u32 0, .int .u32 0, .int .u32 0, .int .u32 0, .int .u32 0, .int .u32 0, .int .u32 0, .int .u32 0, .int .u32 0] 136)).alloc (.cells (Array.replicate 164 (.int .u8 0)) 5)) w.heap.size c n f := (((lies_new w hc rfl).alloc _).alloc _).alloc _
  have l2 : Lies ((((w.alloc (.cells c 136)).alloc (.cells d 136)).alloc (.cells #[.bool false, .int .u32 0, .int .u32 0, .int .u32 0, .int .u32 0, .int .u32 0, .int .u32 0, .int .u32 0, .int .u32 0, .int .u32 0, .int .u32 0, .int .u32 0, .int .u32 0, .int .u32 0, .int .u32 0, .int .u32 0, .int .u32 0] 136)).alloc (.cells (Array.replicate 164 (.int .u8 0)) 5)) (w.heap.size + 1) d m g := ((lies_new _ hd (by simp)).alloc _).alloc _
  have l3 : Lies ((((w.alloc (.cells c 136)).alloc (.cells d 136)).alloc (.cells #[.bool false, .int .u32 0, .int .u32 0, .int .u32 0, .int .u32 0, .int .u32 0, .int .u32 0, .int .u32 0, .int .u32 0, .int .u32 0, .int .u32 0, .int .u32 0, .int .u32 0, .int .u32 0, .int .u32 0, .int .u32 0, .int .u32 0] 136)).alloc (.cells (Array.replicate 164 (.int .u8 0)) 5)) (w.heap.size + 1 + 1) zero59 false (fun _ => 0) := (lies_zero _ (by simp)).alloc _
  have o0 : ((((w.alloc (.cells c 136)).alloc (.cells d 136)).alloc (.cells #[.bool false, .int .u32 0, .int .u32 0, .int .u32 0, .int .u32 0, .int .u32 0, .int .u32 0, .int .u32 0, .int .u32 0, .int .u32 0, .int .u32 0, .int .u32 0, .int .u32 0, .int .u32 0, .int .u32 0, .int .u32 0, .int .u32 0] 136)).alloc (.cells (Array.replicate 164 (.int .u8 0)) 5)).ownsRow (w.heap.size + 1 + 1 + 1) 5 1 (.slice (some ⟨w.heap.size + 1 + 1 + 1, 0, none⟩) 0 164) 0 (vals []) := ownsRow_start _ (by simp)
  have hb0 := below4 w (.cells c 136) (.cells d 136) (.cells #[.bool false, .int .u32 0, .int .u32 0, .int .u32 0, .int .u32 0, .int .u32 0, .int .u32 0, .int .u32 0, .int .u32 0, .int .u32 0, .int .u32 0, .int .u32 0, .int .u32 0, .int .u32 0, .int .u32 0, .int .u32 0, .int .u32 0] 136) (.cells (Array.replicate 164 (.int .u8 0)) 5)
  obtain ⟨i0, hi, hz0, hz1, hz2⟩ := info_parts info5
  go_enter Tryz.func164, Tryz.ntmps164
  go_wp2_with fail
  go_step3
  go_wp2_with fail
  go_step3
  go_wp2_with fail
  clear hmk
  go_loopg [7, 8] 164 (fun gg s7 s8 wr => ∃ (t R : Nat) (qs : List UInt8) (c' : Array Value) (h : Nat → Nat), t + gg = 164 ∧ s7 = .slice (some ⟨w.heap.size + 1 + 1 + 1, 0, none⟩) t 164 ∧ s8 = .int .i64 (143 - (t : Int)) ∧ Lies wr w.heap.size c n f ∧ Lies wr (w.heap.size + 1) d m g ∧
    Lies wr (w.heap.size + 1 + 1) c' false h ∧ Aside (wval h = R) ∧ wr.ownsRow (w.heap.size + 1 + 1 + 1) 5 1 (.slice (some ⟨w.heap.size + 1 + 1 + 1, 0, none⟩) t 164) t (vals qs) ∧ OverTo N M t R qs ∧ Below w.heap.size w wr)
  case atStart => exact ⟨0, 0, [], _, _, by omega, rfl, rfl, l1, l2, l3, by simp [Aside, wval, vN], o0, O0, hb0⟩
  case round =>
    clear l1 l2 l3 o0 hb0 O0
    obtain ⟨t, R, qs, c', h, htg, rfl, rfl, k1, k2, k3, hR, ho, hO, hb⟩ := hrel
    cases gk with
    | zero =>
      obtain rfl : t = 164 := by omega
      have hq := hO.done
      have hsplit : qs = digsOf (N / M) 20 144 ++ digsOf (N / M) 0 20 := by rw [hq]; exact digsOf_split _ 144 20 0
      have hX' : X = bs (digsOf (N / M) 20 144) := by rw [HX.out, HNN.out, HMM.out]
      have hY' : Y = bs (digsOf (N / M) 0 20) := by rw [HY.out, HNN.out, HMM.out]
      have hcell : ∀ j, j < 164 → wr.cell? ⟨w.heap.size + 1 + 1 + 1, j, none⟩ = (vals qs)[j]? := fun j hj => ho.cellAt j (by omega)
      have c1 : ∀ nq, (convert 40 9 (.slice (some ⟨w.heap.size + 1 + 1 + 1, 0, none⟩) 144 164)).run Tryz.prog (wr.drewN nq) = .ok (.string X) (wr.drewN nq) := by
        intro nq
        have := run_convert_bytes_back (P := Tryz.prog) (wr.drewN nq) 40 9 5 ⟨w.heap.size + 1 + 1 + 1, 0, none⟩ 164 (digsOf (N / M) 20 144) Tryz.underlying40 Tryz.underlying5 Tryz.underlying9 (fun j hj => by
          have hj' := hj
          rw [digsOf_len] at hj'
          rw [Addr.add_mid, Nat.zero_add]
          refine Eq.trans (show (wr.drewN nq).cell? _ = wr.cell? ⟨w.heap.size + 1 + 1 + 1, j, none⟩ from rfl) ?_
          rw [hcell j (by omega), hsplit]
          unfold vals
          rw [List.getElem?_map, List.getElem?_append_left hj, List.getElem?_eq_getElem hj]
          rfl)
        rw [digsOf_len] at this
        rw [hX']
        exact this
      have c2 : ∀ nq, (convert 40 9 (.slice (some ⟨w.heap.size + 1 + 1 + 1, 144, none⟩) 20 20)).run Tryz.prog (wr.drewN nq) = .ok (.string Y) (wr.drewN nq) := by
        intro nq
        have := run_convert_bytes_back (P := Tryz.prog) (wr.drewN nq) 40 9 5 ⟨w.heap.size + 1 + 1 + 1, 144, none⟩ 20 (digsOf (N / M) 0 20) Tryz.underlying40 Tryz.underlying5 Tryz.underlying9 (fun j hj => by
          have hj' := hj
          rw [digsOf_len] at hj'
          rw [Addr.add_mid]
          refine Eq.trans (show (wr.drewN nq).cell? _ = wr.cell? ⟨w.heap.size + 1 + 1 + 1, 144 + j, none⟩ from rfl) ?_
          rw [hcell (144 + j) (by omega), hsplit]
          unfold vals
          rw [List.getElem?_map, List.getElem?_append_right (by rw [digsOf_len]; omega), digsOf_len, Nat.add_sub_cancel_left, List.getElem?_eq_getElem hj]
          rfl)
        rw [digsOf_len] at this
        rw [hY']
        exact this
      clear hq hsplit hX' hY' hcell hR
      go_wp2_with fail
      go_quiet (fail)
      go_wp2_with fail
      rw [Exit.noGoto_ret]
      go_ret2
      exact ⟨rfl, below_drewN hb _⟩
    | succ gg =>
      have ht : t < 164 := by omega
      obtain ⟨v, hv⟩ : ∃ v : Int, v = (digAt (wval f * 10 ^ 20) (143 - (t : Int) + 20).toNat).toNat := ⟨_, rfl⟩
      have hvd : v = 48 + (N / 10 ^ (163 - t) % 10 : Nat) := by
        rw [hv, digAt_toNat, ← HNN.out, show (143 - (t : Int) + 20).toNat = 163 - t by omega]; rfl
      have hdg : N / 10 ^ (163 - t) % 10 < 10 := Nat.mod_lt _ (by omega)
      have v1 : 48 ≤ v := by omega
      have v2 : v ≤ 57 := by omega
      have HV := Lib.hid hv
      have HVD := Lib.hid hvd
      clear hv hvd
      have t1 : (t : Int) < 164 := by omega
      go_wp2_with (first
        | ((with_reducible refine wpList_loadN (.tmp 2) w.heap.size (by assumption) ?_ ?_ ?_ ?_); rfl; rfl; rfl)
        | (go_at_call 185; (with_reducible refine (digitX c n f _ _ hc ?_ ?_ v HV).mono ?_); omega; omega; rintro e w1 ⟨rfl, hb1⟩; have q1 := k1.below hb1; have q2 := k2.below hb1; have q3 := k3.below hb1; have ho1 := ho.kept (below_grown hb1) (.inr (by simp [Value.ownBlock])); have hb1' := below_any hb hb1 (Nat.le_of_lt k1.lt))
        | (go_at_call 184; (with_reducible refine (pushAt _ c' false h v _ q3.heap q3.num v1 v2).mono ?_); rintro e w2 ⟨rfl, hon, c2, h2, cr, hh, hn, hp⟩; have p3 := lies_mk hh hn; clear hh; have p1 := q1.only hon (by omega); have p2 := q2.only hon (by omega); have ho2 := ho1.kept hon.grown (.inr (by simp [Value.ownBlock])); have hb2 := below_only hb1' hon (by omega) (Nat.le_of_lt q1.lt)))
      have hR0 : wval h2 = R * 10 + N / 10 ^ (163 - t) % 10 := by
        have e1 : (v - 48).toNat = N / 10 ^ (163 - t) % 10 := by rw [HVD.out]; omega
        have e2 := hp.done (by
          rw [e1, hR.out]
          have h1 := hO.lt
          have h2 : (R + 1) * 10 ≤ M * 10 := Nat.mul_le_mul_right _ h1
          have h3 := HM2.out
          omega)
        rw [e2, e1, hR.out]
      have HR0 := Lib.hid hR0
      clear hR0 hp hR k1 k2 k3 q1 q2 q3 ho ho1 hb hb1 hb1' hon
      go_loopg [7, 9] 10 (fun g3 s7 s9 wr => ∃ (j R' : Nat) (c3 : Array Value) (h3 : Nat → Nat), j + g3 = 10 ∧ j ≤ 9 ∧ s7 = .slice (some ⟨w.heap.size + 1 + 1 + 1, 0, none⟩) t 164 ∧ s9 = .int .u8 (48 + (j : Int)) ∧ Lies wr w.heap.size c n f ∧ Lies wr (w.heap.size + 1) d m g ∧
        Lies wr (w.heap.size + 1 + 1) c3 false h3 ∧ Aside (wval h3 = R') ∧ Aside (R' + j * M = R * 10 + N / 10 ^ (163 - t) % 10) ∧ wr.ownsRow (w.heap.size + 1 + 1 + 1) 5 1 (.slice (some ⟨w.heap.size + 1 + 1 + 1, 0, none⟩) t 164) t (vals qs) ∧ Below w.heap.size w wr)
      case atStart => exact ⟨0, _, _, _, by omega, by omega, rfl, rfl, p1, p2, p3, HR0.out, by simp [Aside], ho2, hb2⟩
      case round =>
        clear p1 p2 p3 ho2 hb2
        obtain ⟨j, R', c3, h3, hjg, hj9, rfl, rfl, k1, k2, k3, hR, hE, ho, hb⟩ := hrel
        have j9 : (j : Int) ≤ 9 := by omega
        by_cases hlt : R' < M
        · have hcmp : ∀ W, Calls Tryz.prog 152 #[.agg c3, .agg d] W fun e w' => e = .returned (.int .i64 (-1)) ∧ Below W.heap.size W w' :=
            fun W => by have := cmpAmt c3 d _ _ _ _ k3.num hd W; rwa [cmpI_lt (by rw [hR.out, ← HMM.out]; exact hlt)] at this
          have HC := Lib.hid hcmp
          have hO' := hO.step ht hj9 hE.out hlt
          clear hcmp
          go_wp2_with (first
            | ((with_reducible refine wpList_loadN (.tmp 6) (w.heap.size + 1 + 1) (by assumption) ?_ ?_ ?_ ?_); rfl; rfl; rfl)
            | ((with_reducible refine wpList_loadN (.tmp 3) (w.heap.size + 1) (by assumption) ?_ ?_ ?_ ?_); rfl; rfl; rfl)
            | (go_at_call 152; (with_reducible refine (HC.out _).mono ?_); rintro e w1 ⟨rfl, hb1⟩; have q1 := k1.below hb1; have q2 := k2.below hb1; have q3 := k3.below hb1; have ho1 := ho.kept (below_grown hb1) (.inr (by simp [Value.ownBlock])); have hb1' := below_any hb hb1 (Nat.le_of_lt k1.lt); clear hb1)
            | (at_builtin; refine wpList_append_fits _ rfl (.tmp 25) (.tmp 27) 40 rfl (w.heap.size + 1 + 1 + 1) 5 i0 1 Tryz.underlying40 hi hz1 (w.heap.size + 1 + 1 + 1) t 164 _ rfl (ho1.alloc _) ⟨_, 0, none⟩ 1 1 [.int .u8 (48 + (j : Int))] rfl rfl ?c1 ?c2 ?c3 ?_))
          case c1 =>
            intro j1 u hj1
            match j1, hj1 with
            | 0, hj1 => simp at hj1; subst hj1; simp [Addr.add]
          case c2 => intro u hu; simp at hu; subst hu; rfl
          case c3 => omega
          · intro w4 hown hgrow
            have r1 := (q1.alloc (.cells #[.int .u8 (48 + (j : Int))] 5)).grown hgrow (by omega)
            have r2 := (q2.alloc (.cells #[.int .u8 (48 + (j : Int))] 5)).grown hgrow (by omega)
            have r3 := (q3.alloc (.cells #[.int .u8 (48 + (j : Int))] 5)).grown hgrow (by omega)
            have hb4 := (hb1'.alloc (Nat.le_of_lt q1.lt) (.cells #[.int .u8 (48 + (j : Int))] 5)).grown hgrow (by simp; have := q1.lt; omega) (by intro k hk; simp at hk; omega)
            rw [← vals_snoc qs j hj9] at hown
            clear q1 q2 q3 ho1 hb1' hgrow
            go_wp2_with fail
            go_roundg gg
            case measure => omega
            case rel => exact ⟨t + 1, R', qs ++ [digB j], c3, h3, by omega, rfl, by go_num, r1, r2, r3, hR, hown, hO', hb4⟩
        · obtain ⟨r, hr, hcmp⟩ : ∃ r : Int, 0 ≤ r ∧ ∀ W, Calls Tryz.prog 152 #[.agg c3, .agg d] W fun e w' => e = .returned (.int .i64 r) ∧ Below W.heap.size W w' :=
            ⟨cmpI (wval h3) (wval g), by rw [hR.out, ← HMM.out]; unfold cmpI; split <;> first | omega | (split <;> omega), fun W => cmpAmt c3 d _ _ _ _ k3.num hd W⟩
          have HC := Lib.hid hcmp
          clear hcmp
          have hj1 := hO.digit_le (by omega) hE.out (by omega)
          go_wp2_with (first
            | ((with_reducible refine wpList_loadN (.tmp 6) (w.heap.size + 1 + 1) (by assumption) ?_ ?_ ?_ ?_); rfl; rfl; rfl)
            | ((with_reducible refine wpList_loadN (.tmp 3) (w.heap.size + 1) (by assumption) ?_ ?_ ?_ ?_); rfl; rfl; rfl)
            | (go_at_call 152; (with_reducible refine (HC.out _).mono ?_); rintro e w1 ⟨rfl, hb1⟩; have q1 := k1.below hb1; have q2 := k2.below hb1; have q3 := k3.below hb1; have ho1 := ho.kept (below_grown hb1) (.inr (by simp [Value.ownBlock])); have hb1' := below_any hb hb1 (Nat.le_of_lt k1.lt); clear hb1)
            | (go_at_call 182; (with_reducible refine (takeAmt (w.heap.size + 1 + 1) c3 d false m h3 g _ q3.heap q3.num hd).mono ?_); rintro e w4 ⟨rfl, hon, c4, h4, cr, hh, hn, hp⟩; have r3 := lies_mk hh hn; clear hh; have r1 := q1.only hon (by omega); have r2 := q2.only hon (by omega); have ho4 := ho1.kept hon.grown (.inr (by simp [Value.ownBlock])); have hb4 := below_only hb1' hon (by omega) (Nat.le_of_lt q1.lt); have HP := Lib.hid hp; clear hp))
          have hval := HP.out.done (by rw [hR.out, ← HMM.out]; omega) k3.num.lt
          have hE' : Aside ((wval h4) + (j + 1) * M = R * 10 + N / 10 ^ (163 - t) % 10) := by
            unfold Aside
            rw [← hE.out, ← hR.out, Nat.add_mul, HMM.out]
            omega
          clear hval
          go_roundg (gk - 1)
          case measure => omega
          case rel => exact ⟨j + 1, wval h4, c4, h4, by omega, hj1, rfl, by go_num, r1, r2, r3, rfl, hE', ho4, hb4⟩

end Go.Proofs.YtoifjjgakblhhaaGreatDoor

/- What a value is encoded as: its bytes; how many they are at most. -/
namespace Go.Proofs.YtoifjjgakblhhaaGreatDoor
open Go.RowKit

mutual
/-- How much there is of a value. -/
def wOne : Val → Nat
  | .mk _ _ _ t x l => 1 + t.size + x.size + wAll l
def wAll : List Val → Nat
  | [] => 0
  | v :: r => wOne v + wAll r
end
theorem wAll_len : (l : List Val) → l.length ≤ wAll l
  | [] => by simp
  | .mk k b n t x q :: r => by
    unfold wAll wOne
    have := wAll_len r
    simp only [List.length_cons]
    omega
/-- A slice of bytes: what it reads as. -/
def Bts (w : World) (A : Value) (l : List UInt8) : Prop := ∃ p cap, A = .slice p l.length cap ∧ (l = [] ∨ ∃ g off, p = some ⟨g, off, none⟩ ∧ ∀ j c, l[j]? = some c → w.cell? ⟨g, off + j, none⟩ = some (.int .u8 c.toNat))
theorem Bts.below {w w' : World} {A : Value} {l : List UInt8} (h : Bts w A l) (b : Below w.heap.size w w') : Bts w' A l := by
  obtain ⟨p, cap, e, h⟩ := h
  refine ⟨p, cap, e, ?_⟩
  rcases h with h | ⟨g, off, e2, h⟩
  · exact .inl h
  · exact .inr ⟨g, off, e2, fun j c hj => (b.cell (p := ⟨g, off + j, none⟩) (World.block_lt_of_cell? w _ (h j c hj))).trans (h j c hj)⟩
/-- A row of bytes of one's own. -/
structure OwnB (w0 : World) (A : Value) (l : List UInt8) (w : World) : Prop where
  own : w.ownsRow w0.heap.size 5 1 A l.length (vals l)
  bel : Below w0.heap.size w0 w
theorem OwnB.lo {w0 w : World} {A : Value} {l : List UInt8} (h : OwnB w0 A l w) : w0.heap.size ≤ w.heap.size := h.bel.size
theorem OwnB.alloc {w0 w : World} {A : Value} {l : List UInt8} (h : OwnB w0 A l w) (o : Obj) : OwnB w0 A l (w.alloc o) := ⟨h.own.alloc o, h.bel.alloc h.lo o⟩
theorem OwnB.start (w : World) : OwnB w (.slice none 0 0) [] w := ⟨World.ownsRow_nil _ _ _ _, Below.refl _ _⟩
theorem OwnB.say {w0 w w1 : World} {A A' : Value} {l l' : List UInt8} {n : Nat} {xs : List Value} (h : OwnB w0 A l w) (hown : w1.ownsRow w0.heap.size 5 1 A' n xs) (hg : w.grownBy w1 A.ownBlock) (hn : n = l'.length) (hx : xs = vals l') : OwnB w0 A' l' w1 := by
  subst hn hx
  exact ⟨hown, h.bel.grown hg h.lo (fun k hk => (h.own.lt k hk).1)⟩
theorem OwnB.after {w0 w w1 : World} {A : Value} {l : List UInt8} (h : OwnB w0 A l w) (hb : Below w.heap.size w w1) : OwnB w0 A l w1 := by
  refine ⟨⟨h.own.1, ?_⟩, below_any h.bel hb h.lo⟩
  rcases h.own.2 with h0 | ⟨g, cap, cur, e, h1, h2, h3⟩
  · exact .inl h0
  · exact .inr ⟨g, cap, cur, e, h1, (hb.block g (lt_of_heap h2)).trans h2, h3⟩
theorem OwnB.ne {w0 w : World} {A : Value} {l : List UInt8} (h : OwnB w0 A l w) : some w.heap.size ≠ A.ownBlock := fun e => by have := (h.own.lt _ e.symm).2; omega
theorem Six.grown {W w1 : World} {g : Nat} {k : Int} {b : Bool} {n : Int} {t x : ByteArray} {p : Option Addr} {len cap : Nat} {r : Option Nat} (S : Six W g k b n t x p len cap) (hg : W.grownBy w1 r) (hne : some g ≠ r) : Six w1 g k b n t x p len cap :=
  (hg.block g S.lt hne).trans S
/-- All boxes of values stay as they were. -/
def Bx (w w' : World) : Prop := ∀ (g : Nat) (c : Array Value), w.heap[g]? = some (Obj.cells c 28) → w'.heap[g]? = some (Obj.cells c 28)
theorem Bx.refl (w : World) : Bx w w := fun _ _ h => h
theorem Bx.trans {w w1 w2 : World} (h : Bx w w1) (k : Bx w1 w2) : Bx w w2 := fun g c e => k g c (h g c e)
theorem Bx.below {w w' : World} (h : Below w.heap.size w w') : Bx w w' := fun g _ e => (h.block g (lt_of_heap e)).trans e
theorem OwnB.bx {w0 w w1 : World} {A : Value} {l : List UInt8} (h : OwnB w0 A l w) (hg : w.grownBy w1 A.ownBlock) : Bx w w1 := fun g c e => by
  refine (hg.block g (lt_of_heap e) (fun e2 => ?_)).trans e
  rcases h.own.2 with ⟨e3, _⟩ | ⟨g2, cap, cur, e3, _, h2, _⟩
  · rw [e3] at e2; cases e2
  · rw [e3] at e2
    obtain rfl : g = g2 := Option.some.inj e2
    rw [e] at h2
    injection h2 with h3
    injection h3 with _ h4
    exact absurd h4 (by decide)
theorem Six.bx {w w' : World} {g : Nat} {k : Int} {b : Bool} {n : Int} {t x : ByteArray} {p : Option Addr} {len cap : Nat} (S : Six w g k b n t x p len cap) (h : Bx w w') : Six w' g k b n t x p len cap := h _ _ S
theorem OwnB.drew {w0 w : World} {A : Value} {l : List UInt8} (h : OwnB w0 A l w) : OwnB w0 A l w.drew := ⟨h.own, h.bel.drew⟩
end Go.Proofs.YtoifjjgakblhhaaGreatDoor

/- A list of values that came in: where it lies, what it is, and how much of it there is. -/
namespace Go.Proofs.YtoifjjgakblhhaaGreatDoor
open Go.RowKit Go.ChangeShapes
variable {H : Type} {enc : TypeId × Value → H}

theorem value_of_trodW {W : World} {n : Nat} {cs : List Value} {y : DataW H × List MemPlace} (h : DataW.trod enc Tryz.prog W 0 (fun _ => true) true n 28 cs = some y) :
    ∃ n' k b m t x L yl, n = n' + 1 ∧ cs = [.int .i64 k, .bool b, .int .i64 m, .string t, .string x, L] ∧ DataW.trod enc Tryz.prog W 0 (fun _ => true) true n' 22 [L] = some yl ∧
      1 + t.size + x.size + Rows.uptoBulk yl.1 ≤ Rows.uptoBulk y.1 ∧ (Lit.int .i64 m).wf = true := by
  obtain ⟨xs, n', rfl, rfl, hl, hlen, hf⟩ := DataW.trod_struct Tryz.underlying28 h
  obtain ⟨c0, c1, c2, c3, c4, c5, rfl⟩ := list6 (hl.trans (by kernel_rfl : Tryz.prog.cellsOf 28 = 6))
  obtain ⟨y0, y1, y2, y3, y4, y5, rfl⟩ := list6 (hlen.trans rfl)
  have e1 : Tryz.prog.cellsOf 3 = 1 := by kernel_rfl
  have e2 : Tryz.prog.cellsOf 4 = 1 := by kernel_rfl
  have e3 : Tryz.prog.cellsOf 2 = 1 := by kernel_rfl
  have e4 : Tryz.prog.cellsOf 9 = 1 := by kernel_rfl
  have e5 : Tryz.prog.cellsOf 22 = 1 := by kernel_rfl
  have h0 : DataW.trod enc Tryz.prog W 0 (fun _ => true) true n' 3 (([c0, c1, c2, c3, c4, c5].drop 0).take (Tryz.prog.cellsOf 3)) = [y0, y1, y2, y3, y4, y5][0]? := hf 0 _ rfl
  have h1 : DataW.trod enc Tryz.prog W 0 (fun _ => true) true n' 4 (([c0, c1, c2, c3, c4, c5].drop 1).take (Tryz.prog.cellsOf 4)) = [y0, y1, y2, y3, y4, y5][1]? := hf 1 _ rfl
  have h2 : DataW.trod enc Tryz.prog W 0 (fun _ => true) true n' 2 (([c0, c1, c2, c3, c4, c5].drop 2).take (Tryz.prog.cellsOf 2)) = [y0, y1, y2, y3, y4, y5][2]? := hf 2 _ rfl
  have h3 : DataW.trod enc Tryz.prog W 0 (fun _ => true) true n' 9 (([c0, c1, c2, c3, c4, c5].drop 3).take (Tryz.prog.cellsOf 9)) = [y0, y1, y2, y3, y4, y5][3]? := hf 3 _ rfl
  have h4 : DataW.trod enc Tryz.prog W 0 (fun _ => true) true n' 9 (([c0, c1, c2, c3, c4, c5].drop 4).take (Tryz.prog.cellsOf 9)) = [y0, y1, y2, y3, y4, y5][4]? := hf 4 _ rfl
  have h5 : DataW.trod enc Tryz.prog W 0 (fun _ => true) true n' 22 (([c0, c1, c2, c3, c4, c5].drop 5).take (Tryz.prog.cellsOf 22)) = [y0, y1, y2, y3, y4, y5][5]? := hf 5 _ rfl
  rw [e1] at h0
  rw [e2] at h1
  rw [e3] at h2
  rw [e4] at h3 h4
  rw [e5] at h5
  replace h0 : DataW.trod enc Tryz.prog W 0 (fun _ => true) true n' 3 [c0] = some y0 := h0
  replace h1 : DataW.trod enc Tryz.prog W 0 (fun _ => true) true n' 4 [c1] = some y1 := h1
  replace h2 : DataW.trod enc Tryz.prog W 0 (fun _ => true) true n' 2 [c2] = some y2 := h2
  replace h3 : DataW.trod enc Tryz.prog W 0 (fun _ => true) true n' 9 [c3] = some y3 := h3
  replace h4 : DataW.trod enc Tryz.prog W 0 (fun _ => true) true n' 9 [c4] = some y4 := h4
  replace h5 : DataW.trod enc Tryz.prog W 0 (fun _ => true) true n' 22 [c5] = some y5 := h5
  obtain ⟨k, a0, _, _⟩ := DataW.trod_int Tryz.underlying3 h0
  obtain ⟨b, a1, _⟩ := DataW.trod_bool Tryz.underlying4 h1
  obtain ⟨m, a2, _, wm⟩ := DataW.trod_int Tryz.underlying2 h2
  obtain ⟨t, a3, z3, _⟩ := DataW.trod_string Tryz.underlying9 h3
  obtain ⟨x, a4, z4, _⟩ := DataW.trod_string Tryz.underlying9 h4
  simp only [List.cons.injEq, and_true] at a0 a1 a2 a3 a4
  subst a0 a1 a2 a3 a4
  refine ⟨n', k, b, m, t, x, c5, y5, rfl, rfl, h5, ?_, wm⟩
  have a3 : Rows.uptoBulk y3.1 = t.size + 1 := by
    rw [z3]
    have e' : t.data.toList.length = t.size := Array.length_toList
    show t.data.toList.length + 1 = _
    rw [e']
  have a4 : Rows.uptoBulk y4.1 = x.size + 1 := by
    rw [z4]
    have e' : x.data.toList.length = x.size := Array.length_toList
    show x.data.toList.length + 1 = _
    rw [e']
  have a : Rows.uptoBulkAll ([y0, y1, y2, y3, y4, y5].map (·.1)) = Rows.uptoBulk y0.1 + (Rows.uptoBulk y1.1 + (Rows.uptoBulk y2.1 + (Rows.uptoBulk y3.1 + (Rows.uptoBulk y4.1 + (Rows.uptoBulk y5.1 + 0))))) := rfl
  show _ ≤ Rows.uptoBulkAll _ + 1
  rw [a, a3, a4]
  omega

set_option maxRecDepth 20000 in
theorem vals_of_trodW {W : World} (B : Nat) (hBB : B ≤ 2097152) : ∀ (N n : Nat), n ≤ N → ∀ (L : Value) (y : DataW H × List MemPlace), DataW.trod enc Tryz.prog W 0 (fun _ => true) true n 22 [L] = some y → Rows.uptoBulk y.1 ≤ B → ∃ l, Held W L l ∧ wAll l ≤ Rows.uptoBulk y.1 := by
  intro N
  induction N with
  | zero =>
    intro n hn L y h _
    obtain rfl : n = 0 := by omega
    simp [DataW.trod] at h
  | succ N IH =>
    intro n0 hn0 L y h hB
    rcases DataW.trod_slice Tryz.underlying22 h with ⟨e, _⟩ | ⟨a, len, cap, elems, rest, n1, hn, e, rfl, hb, hl, hm, hlen, hel, _, _⟩
    · obtain rfl : L = .slice none 0 0 := by simpa using e
      exact ⟨[], by unfold Held; exact ⟨none, 0, rfl⟩, by simp [wAll]⟩
    · obtain rfl : L = .slice (some a) len cap := by simpa using e
      rw [show Tryz.prog.cellsOf 28 = 6 by kernel_rfl] at hel
      have hE1 : Rows.uptoBulkAll (elems.map (·.1)) + Rows.uptoBulkAll (rest.map (·.1)) + 1 ≤ B := hB
      have hE : Rows.uptoBulkAll (elems.map (·.1)) ≤ B := by omega
      have hln : len ≤ B := by
        have := bulk_len (elems.map (·.1))
        simp only [List.length_map] at this
        omega
      have each : ∀ i, i < len → ∃ k b m t x l p, (∀ j v, [Value.int .i64 k, .bool b, .int .i64 m, .string t, .string x, p][j]? = some v → W.cell? ((a.add (i * 6)).add j) = some v) ∧ Fine m t x (List.length (α := Val) l) ∧ Held W p l ∧ ∀ h : i < elems.length, 1 + t.size + x.size + wAll l ≤ Rows.uptoBulk elems[i].1 := by
        intro i hi
        have h1 := hel i hi
        have hi' : i < elems.length := by omega
        rw [List.getElem?_eq_getElem hi', Option.bind_eq_some_iff] at h1
        obtain ⟨cs, hcs, hy⟩ := h1
        obtain ⟨c1, c2⟩ := mapM_cells hcs
        obtain ⟨n', k, b, m, t, x, p, yl, hn', rfl, hp, hpl, wm⟩ := value_of_trodW hy
        have hbe : Rows.uptoBulk elems[i].1 ≤ B := Nat.le_trans (bulk_mem (List.mem_map_of_mem (List.getElem_mem hi'))) hE
        obtain ⟨l, hheld, hll⟩ := IH n' (by omega) p yl hp (by omega)
        obtain ⟨w1, w2⟩ := i64_wf wm
        have hll2 := wAll_len l
        refine ⟨k, b, m, t, x, l, p, fun j v hv => ?_, ⟨by omega, by omega, by omega, w1, w2⟩, hheld, fun _ => by omega⟩
        have hj : j < 6 := by
          have := (List.getElem?_eq_some_iff.1 hv).1
          simpa using this
        rw [c2 j hj, hv]
      by_cases h0 : len = 0
      · subst h0
        exact ⟨[], by unfold Held; exact ⟨some a, cap, rfl⟩, by simp [wAll]⟩
      · have hsp : a.spot = none := by
          obtain ⟨k, b, m, t, x, l, p, hc, _, _, _⟩ := each 0 (by omega)
          have h0 := hc 0 _ rfl
          cases kk : a.spot with
          | none => rfl
          | some mm =>
            rw [show (a.add (0 * 6)).add 0 = a by simp [Addr.add]] at h0
            unfold World.cell? at h0
            rw [kk] at h0
            split at h0 <;> simp at h0
        obtain ⟨g, off, spot⟩ := a
        simp only at hsp
        subst hsp
        have build : ∀ m, m ≤ len → ∃ l : List Val, l.length = m ∧ Holds W g (off + (len - m) * 6) l ∧ wAll l ≤ Rows.uptoBulkAll ((elems.map (·.1)).drop (len - m)) := by
          intro m
          induction m with
          | zero => exact fun _ => ⟨[], rfl, by unfold Holds; trivial, by simp [wAll]⟩
          | succ m ih =>
            intro hm1
            obtain ⟨l, hll, hh, hwl⟩ := ih (by omega)
            obtain ⟨k, b, mm, t, x, q, p, hc, hf, hp, hwe⟩ := each (len - (m + 1)) (by omega)
            have ea : ∀ j, ((⟨g, off, none⟩ : Addr).add ((len - (m + 1)) * 6)).add j = ⟨g, off + (len - (m + 1)) * 6 + j, none⟩ := fun j => by rw [add_none, add_none]
            refine ⟨.mk k b mm t x q :: l, by simp [hll], ?_⟩
            have hi2 : len - (m + 1) < elems.length := by omega
            have hd : (elems.map (·.1)).drop (len - (m + 1)) = elems[len - (m + 1)].1 :: (elems.map (·.1)).drop (len - m) := by
              rw [List.drop_eq_getElem_cons (by simpa using hi2), List.getElem_map, show len - (m + 1) + 1 = len - m by omega]
            refine ⟨?_, ?_⟩
            rotate_left
            · rw [hd]
              have := hwe hi2
              unfold wAll wOne Rows.uptoBulkAll
              omega
            unfold Holds
            refine ⟨?_, ?_⟩
            · unfold HoldsOne
              have hcj := fun j v hv => (congrArg W.cell? (ea j)).symm.trans (hc j v hv)
              exact ⟨hcj 0 _ rfl, hcj 1 _ rfl, hcj 2 _ rfl, hcj 3 _ rfl, hcj 4 _ rfl, hf, p, hcj 5 _ rfl, hp⟩
            · rw [show off + (len - (m + 1)) * 6 + 6 = off + (len - m) * 6 by omega]
              exact hh
        obtain ⟨l, hll, hh, hwl⟩ := build len (Nat.le_refl _)
        rw [Nat.sub_self, Nat.zero_mul, Nat.add_zero] at hh
        rw [Nat.sub_self, List.drop_zero] at hwl
        refine ⟨l, ?_, by show wAll l ≤ Rows.uptoBulkAll (elems.map (·.1)) + Rows.uptoBulkAll (rest.map (·.1)) + 1; omega⟩
        cases l with
        | nil => simp at hll; omega
        | cons v r =>
          unfold Holds at hh
          unfold Held
          exact ⟨g, off, cap, by rw [← hll]; rfl, hh.1, hh.2⟩
end Go.Proofs.YtoifjjgakblhhaaGreatDoor
