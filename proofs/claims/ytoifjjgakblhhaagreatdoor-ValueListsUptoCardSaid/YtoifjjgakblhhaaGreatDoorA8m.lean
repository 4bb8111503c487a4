/- plus. -/
import Derived.Test.YtoifjjgakblhhaaGreatDoorGf
import Derived.Test.YtoifjjgakblhhaaGreatDoorGa
namespace Go.Proofs.YtoifjjgakblhhaaGreatDoor
open Go.RowKit

theorem AddTo.done {f g h : Nat → Nat} {c : Nat} (H : AddTo f g h c 16) (hs : wval f + wval g < BASE ^ 16) : wval h = wval f + wval g := by
  have s := H.sum
  have hc : c = 0 := by
    by_cases e : c = 0
    · exact e
    · have : 1 * BASE ^ 16 ≤ c * BASE ^ 16 := Nat.mul_le_mul_right _ (by omega)
      unfold wval at hs; omega
  subst hc
  unfold wval at *; omega

theorem TakeFrom.done {f g h : Nat → Nat} {c : Nat} (H : TakeFrom f g h c 16) (hs : wval g ≤ wval f) (hf : Words f) : wval h + wval g = wval f := by
  have s := H.sum
  have hl := vN_lt h H.words 16 (by omega)
  have hc : c = 0 := by
    by_cases e : c = 0
    · exact e
    · have : 1 * BASE ^ 16 ≤ c * BASE ^ 16 := Nat.mul_le_mul_right _ (by omega)
      unfold wval at hs; omega
  subst hc
  unfold wval; omega

theorem below3 (w : World) (a b c : Obj) : Below w.heap.size w (((w.alloc a).alloc b).alloc c) := (((Below.refl _ _).alloc (Nat.le_refl _) _).alloc (by simp) _).alloc (by simp; omega) _

set_option maxHeartbeats 800000 in
theorem plusSame (c d : Array Value) (n : Bool) (f g : Nat → Nat) (w : World) (hc : IsNum c n f) (hd : IsNum d n g) :
    Calls Tryz.prog 160 #[.agg c, .agg d] w fun e w' => ∃ c' h cr, e = .returned (.agg c') ∧ IsNum c' n h ∧ AddTo f g h cr 16 ∧ Below w.heap.size w w' := by
  have l1 : Lies (((w.alloc (.cells c 136)).alloc (.cells d 136)).alloc (.cells #[.bool false, .int .u32 0, .int .u32 0, .int .u32 0, .int .u32 0, .int .u32 0, .int .u32 0, .int .u32 0, .int .u32 0, .int .u32 0, .int .u32 0, .int .u32 0, .int .u32 0, .int .u32 0, .int .u32 0, .int .u32 0, .int .u32 0] 136)) w.heap.size c n f := ((lies_new w hc rfl).alloc _).alloc _
  have l2 : Lies (((w.alloc (.cells c 136)).alloc (.cells d 136)).alloc (.cells #[.bool false, .int .u32 0, .int .u32 0, .int .u32 0, .int .u32 0, .int .u32 0, .int .u32 0, .int .u32 0, .int .u32 0, .int .u32 0, .int .u32 0, .int .u32 0, .int .u32 0, .int .u32 0, .int .u32 0, .int .u32 0, .int .u32 0] 136)) (w.heap.size + 1) d n g := (lies_new _ hd (by simp)).alloc _
  have l3 : Lies (((w.alloc (.cells c 136)).alloc (.cells d 136)).alloc (.cells #[.bool false, .int .u32 0, .int .u32 0, .int .u32 0, .int .u32 0, .int .u32 0, .int .u32 0, .int .u32 0, .int .u32 0, .int .u32 0, .int .u32 0, .int .u32 0, .int .u32 0, .int .u32 0, .int .u32 0, .int .u32 0, .int .u32 0] 136)) (w.heap.size + 1 + 1) zero59 false (fun _ => 0) := lies_zero _ (by simp)
  have h0 := l1.cell0
  have h1 := l2.cell0
  have hb := below3 w (.cells c 136) (.cells d 136) (.cells #[.bool false, .int .u32 0, .int .u32 0, .int .u32 0, .int .u32 0, .int .u32 0, .int .u32 0, .int .u32 0, .int .u32 0, .int .u32 0, .int .u32 0, .int .u32 0, .int .u32 0, .int .u32 0, .int .u32 0, .int .u32 0, .int .u32 0] 136)
  go_enter Tryz.func160, Tryz.ntmps160
  go_wp2_with (first
      | ((with_reducible refine wpList_loadN (.tmp 2) w.heap.size (by assumption) ?_ ?_ ?_ ?_); rfl; rfl; rfl)
      | ((with_reducible refine wpList_loadN (.tmp 3) (w.heap.size + 1) (by assumption) ?_ ?_ ?_ ?_); rfl; rfl; rfl)
      | (go_at_call 181; (with_reducible refine (addAmt w.heap.size c d n n f g _ l1.heap hc hd).mono ?_); rintro e w1 ⟨rfl, ho, c', h, cr, hh, hn, ha⟩; have k1 : Lies w1 w.heap.size c' n h := lies_mk hh hn; clear hh; have k3 := l3.only ho (by omega); have hb1 := below_only hb ho (Nat.le_refl _) (by simp; omega))
      | ((with_reducible refine wpList_storeN (.tmp 4) (.tmp 12) (w.heap.size + 1 + 1) (by assumption) hn ?_ ?_ ?_ ?_ ?_); rfl; rfl; rfl; rfl; intro w2 ho2 m3; have hb2 := below_only hb1 ho2 (by omega) (Nat.le_of_lt k1.lt)))
  exact bodyPost_ret (v := .agg c') (results_num (p := 4) Tryz.results160 _ rfl m3) rfl ⟨c', h, cr, rfl, hn, ha, hb2⟩

set_option maxHeartbeats 800000 in
theorem plusDiffGe (c d : Array Value) (n : Bool) (f g : Nat → Nat) (w : World) (hc : IsNum c n f) (hd : IsNum d (!n) g) (hge : wval g ≤ wval f) :
    Calls Tryz.prog 160 #[.agg c, .agg d] w fun e w' => ∃ c' h cr, e = .returned (.agg c') ∧ IsNum c' n h ∧ TakeFrom f g h cr 16 ∧ Below w.heap.size w w' := by
  obtain ⟨r, hr, hcmp⟩ : ∃ r : Int, 0 ≤ r ∧ ∀ W, Calls Tryz.prog 152 #[.agg c, .agg d] W fun e w' => e = .returned (.int .i64 r) ∧ Below W.heap.size W w' :=
    ⟨cmpI (wval f) (wval g), by unfold cmpI; split <;> first | omega | (split <;> omega), fun W => cmpAmt c d _ _ _ _ hc hd W⟩
  have HC := Lib.hid hcmp
  clear hcmp
  have l1 : Lies (((w.alloc (.cells c 136)).alloc (.cells d 136)).alloc (.cells #[.bool false, .int .u32 0, .int .u32 0, .int .u32 0, .int .u32 0, .int .u32 0, .int .u32 0, .int .u32 0, .int .u32 0, .int .u32 0, .int .u32 0, .int .u32 0, .int .u32 0, .int .u32 0, .int .u32 0, .int .u32 0, .int .u32 0] 136)) w.heap.size c n f := ((lies_new w hc rfl).alloc _).alloc _
  have l2 : Lies (((w.alloc (.cells c 136)).alloc (.cells d 136)).alloc (.cells #[.bool false, .int .u32 0, .int .u32 0, .int .u32 0, .int .u32 0, .int .u32 0, .int .u32 0, .int .u32 0, .int .u32 0, .int .u32 0, .int .u32 0, .int .u32 0, .int .u32 0, .int .u32 0, .int .u32 0, .int .u32 0, .int .u32 0] 136)) (w.heap.size + 1) d (!n) g := (lies_new _ hd (by simp)).alloc _
  have l3 : Lies (((w.alloc (.cells c 136)).alloc (.cells d 136)).alloc (.cells #[.bool false, .int .u32 0, .int .u32 0, .int .u32 0, .int .u32 0, .int .u32 0, .int .u32 0, .int .u32 0, .int .u32 0, .int .u32 0, .int .u32 0, .int .u32 0, .int .u32 0, .int .u32 0, .int .u32 0, .int .u32 0, .int .u32 0] 136)) (w.heap.size + 1 + 1) zero59 false (fun _ => 0) := lies_zero _ (by simp)
  have h0 := l1.cell0
  have h1 := l2.cell0
  have hb := below3 w (.cells c 136) (.cells d 136) (.cells #[.bool false, .int .u32 0, .int .u32 0, .int .u32 0, .int .u32 0, .int .u32 0, .int .u32 0, .int .u32 0, .int .u32 0, .int .u32 0, .int .u32 0, .int .u32 0, .int .u32 0, .int .u32 0, .int .u32 0, .int .u32 0, .int .u32 0] 136)
  have hne : (n == !n) = false := by cases n <;> rfl
  go_enter Tryz.func160, Tryz.ntmps160
  go_wp2_with (first
      | ((with_reducible refine wpList_loadN (.tmp 2) w.heap.size (by assumption) ?_ ?_ ?_ ?_); rfl; rfl; rfl)
      | ((with_reducible refine wpList_loadN (.tmp 3) (w.heap.size + 1) (by assumption) ?_ ?_ ?_ ?_); rfl; rfl; rfl)
      | (go_at_call 152; (with_reducible refine (HC.out _).mono ?_); rintro e w1 ⟨rfl, hbel⟩; have k1 := l1.below hbel; have k2 := l2.below hbel; have k3 := l3.below hbel; have hb1 := below_any hb hbel (by simp; omega))
      | (go_at_call 182; (with_reducible refine (takeAmt w.heap.size c d n (!n) f g _ k1.heap hc hd).mono ?_); rintro e w2 ⟨rfl, ho, c', h, cr, hh, hn, ha⟩; have p1 : Lies w2 w.heap.size c' n h := lies_mk hh hn; clear hh; have p3 := k3.only ho (by omega); have hb2 := below_only hb1 ho (Nat.le_refl _) (Nat.le_of_lt k1.lt))
      | ((with_reducible refine wpList_storeN (.tmp 4) (.tmp 21) (w.heap.size + 1 + 1) (by assumption) hn ?_ ?_ ?_ ?_ ?_); rfl; rfl; rfl; rfl; intro w3 ho2 m3; have hb3 := below_only hb2 ho2 (by omega) (Nat.le_of_lt p1.lt)))
  exact bodyPost_ret (v := .agg c') (results_num (p := 4) Tryz.results160 _ rfl m3) rfl ⟨c', h, cr, rfl, hn, ha, hb3⟩

set_option maxHeartbeats 800000 in
theorem plusDiffLt (c d : Array Value) (n : Bool) (f g : Nat → Nat) (w : World) (hc : IsNum c n f) (hd : IsNum d (!n) g) (hlt : wval f < wval g) :
    Calls Tryz.prog 160 #[.agg c, .agg d] w fun e w' => ∃ c' h cr, e = .returned (.agg c') ∧ IsNum c' (!n) h ∧ TakeFrom g f h cr 16 ∧ Below w.heap.size w w' := by
  have hcmp : ∀ W, Calls Tryz.prog 152 #[.agg c, .agg d] W fun e w' => e = .returned (.int .i64 (-1)) ∧ Below W.heap.size W w' :=
    fun W => by have := cmpAmt c d _ _ _ _ hc hd W; rwa [cmpI_lt hlt] at this
  have HC := Lib.hid hcmp
  clear hcmp
  have l1 : Lies (((w.alloc (.cells c 136)).alloc (.cells d 136)).alloc (.cells #[.bool false, .int .u32 0, .int .u32 0, .int .u32 0, .int .u32 0, .int .u32 0, .int .u32 0, .int .u32 0, .int .u32 0, .int .u32 0, .int .u32 0, .int .u32 0, .int .u32 0, .int .u32 0, .int .u32 0, .int .u32 0, .int .u32 0] 136)) w.heap.size c n f := ((lies_new w hc rfl).alloc _).alloc _
  have l2 : Lies (((w.alloc (.cells c 136)).alloc (.cells d 136)).alloc (.cells #[.bool false, .int .u32 0, .int .u32 0, .int .u32 0, .int .u32 0, .int .u32 0, .int .u32 0, .int .u32 0, .int .u32 0, .int .u32 0, .int .u32 0, .int .u32 0, .int .u32 0, .int .u32 0, .int .u32 0, .int .u32 0, .int .u32 0] 136)) (w.heap.size + 1) d (!n) g := (lies_new _ hd (by simp)).alloc _
  have l3 : Lies (((w.alloc (.cells c 136)).alloc (.cells d 136)).alloc (.cells #[.bool false, .int .u32 0, .int .u32 0, .int .u32 0, .int .u32 0, .int .u32 0, .int .u32 0, .int .u32 0, .int .u32 0, .int .u32 0, .int .u32 0, .int .u32 0, .int .u32 0, .int .u32 0, .int .u32 0, .int .u32 0, .int .u32 0] 136)) (w.heap.size + 1 + 1) zero59 false (fun _ => 0) := lies_zero _ (by simp)
  have h0 := l1.cell0
  have h1 := l2.cell0
  have hb := below3 w (.cells c 136) (.cells d 136) (.cells #[.bool false, .int .u32 0, .int .u32 0, .int .u32 0, .int .u32 0, .int .u32 0, .int .u32 0, .int .u32 0, .int .u32 0, .int .u32 0, .int .u32 0, .int .u32 0, .int .u32 0, .int .u32 0, .int .u32 0, .int .u32 0, .int .u32 0] 136)
  have hne : (n == !n) = false := by cases n <;> rfl
  go_enter Tryz.func160, Tryz.ntmps160
  go_wp2_with (first
      | ((with_reducible refine wpList_loadN (.tmp 2) w.heap.size (by assumption) ?_ ?_ ?_ ?_); rfl; rfl; rfl)
      | ((with_reducible refine wpList_loadN (.tmp 3) (w.heap.size + 1) (by assumption) ?_ ?_ ?_ ?_); rfl; rfl; rfl)
      | (go_at_call 152; (with_reducible refine (HC.out _).mono ?_); rintro e w1 ⟨rfl, hbel⟩; have k1 := l1.below hbel; have k2 := l2.below hbel; have k3 := l3.below hbel; have hb1 := below_any hb hbel (by simp; omega))
      | ((with_reducible refine wpList_storeN (.tmp 2) (.tmp 17) w.heap.size (by assumption) hd ?_ ?_ ?_ ?_ ?_); rfl; rfl; rfl; rfl; intro w2 ho2 q1; have q2 := k2.only ho2 (by omega); have q3 := k3.only ho2 (by omega); have hb2 := below_only hb1 ho2 (Nat.le_refl _) (Nat.le_of_lt k1.lt))
      | ((with_reducible refine wpList_storeN (.tmp 3) (.tmp 18) (w.heap.size + 1) (by assumption) hc ?_ ?_ ?_ ?_ ?_); rfl; rfl; rfl; rfl; intro w3 ho3 r2; have r1 := q1.only ho3 (by omega); have r3 := q3.only ho3 (by omega); have hb3 := below_only hb2 ho3 (by omega) (Nat.le_of_lt q1.lt))
      | (go_at_call 182; (with_reducible refine (takeAmt w.heap.size d c (!n) n g f _ r1.heap hd hc).mono ?_); rintro e w4 ⟨rfl, ho, c', h, cr, hh, hn, ha⟩; have p1 : Lies w4 w.heap.size c' (!n) h := lies_mk hh hn; clear hh; have p3 := r3.only ho (by omega); have hb4 := below_only hb3 ho (Nat.le_refl _) (Nat.le_of_lt r1.lt))
      | ((with_reducible refine wpList_storeN (.tmp 4) (.tmp 21) (w.heap.size + 1 + 1) (by assumption) hn ?_ ?_ ?_ ?_ ?_); rfl; rfl; rfl; rfl; intro w5 ho5 m3; have hb5 := below_only hb4 ho5 (by omega) (Nat.le_of_lt p1.lt)))
  exact bodyPost_ret (v := .agg c') (results_num (p := 4) Tryz.results160 _ rfl m3) rfl ⟨c', h, cr, rfl, hn, ha, hb5⟩

/-- The sum of two signed amounts. -/
theorem plusNum (c d : Array Value) (n m : Bool) (f g : Nat → Nat) (w : World) (hc : IsNum c n f) (hd : IsNum d m g) (hs : wval f + wval g < BASE ^ 16) :
    Calls Tryz.prog 160 #[.agg c, .agg d] w fun e w' => ∃ c' r h, e = .returned (.agg c') ∧ IsNum c' r h ∧ sv r (wval h) = sv n (wval f) + sv m (wval g) ∧ Below w.heap.size w w' := by
  by_cases e : m = n
  · subst e
    refine (plusSame c d m f g w hc hd).mono ?_
    rintro e w' ⟨c', h, cr, rfl, hn, ha, hb⟩
    exact ⟨c', m, h, rfl, hn, by rw [ha.done hs]; unfold sv; split <;> omega, hb⟩
  · obtain rfl : m = !n := by cases m <;> cases n <;> simp_all
    by_cases hl : wval f < wval g
    · refine (plusDiffLt c d n f g w hc hd hl).mono ?_
      rintro e w' ⟨c', h, cr, rfl, hn, ha, hb⟩
      refine ⟨c', !n, h, rfl, hn, ?_, hb⟩
      have := ha.done (by omega) hd.lt
      unfold sv; cases n <;> simp <;> omega
    · refine (plusDiffGe c d n f g w hc hd (by omega)).mono ?_
      rintro e w' ⟨c', h, cr, rfl, hn, ha, hb⟩
      refine ⟨c', n, h, rfl, hn, ?_, hb⟩
      have := ha.done (by omega) hc.lt
      unfold sv; cases n <;> simp <;> omega

end Go.Proofs.YtoifjjgakblhhaaGreatDoor
