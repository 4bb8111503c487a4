/- Texts of one kind, one behind the other: each says ahead of itself what it shows. -/
import Derived.Test.YtoifjjgakblhhaaGreatDoorHaj
import Derived.Test.YtoifjjgakblhhaaGreatDoorHat
import Derived.Test.YtoifjjgakblhhaaGreatDoorHap
/- Quotients by the program's own decimals. -/
namespace Go.Proofs.YtoifjjgakblhhaaGreatDoor
open Go.RowKit
set_option maxHeartbeats 400000 in
theorem isZ (c : Array Value) (n : Bool) (f : Nat → Nat) (w : World) (hc : IsNum c n f) :
    Calls Tryz.prog 163 #[.agg c] w fun e w' => e = .returned (.bool (decide (wval f = 0))) ∧ Below w.heap.size w w' := by
  have he : ∀ W, (binOp .eql 134 (.agg (c.extract 1 17)) (.agg zero57)).run Tryz.prog W = .ok (.bool (decide (wval f = 0))) W := by
    intro W
    rw [run_eql_struct, run_eq16 9998 _ _ f (fun _ => 0) W (word_extract hc) zero57_at]
    have e : ((List.range 16).all fun j => f j == 0) = decide (wval f = 0) := by
      rw [Bool.eq_iff_iff]
      simp [wval, vN_zero]
    rw [e]
    rfl
  have HE := Lib.hid he
  clear he
  go_enter Tryz.func163, Tryz.ntmps163
  go_wp2_with (first
    | ((with_reducible refine wpList_load_words w.heap.size c ?_ ?_ (.tmp 3) ?_ ?_ ?_ ?_); exact heap_new _ _ rfl; exact hc.size; rfl; rfl; rfl)
    | ((with_reducible refine wpList_eql_words (c.extract 1 17) zero57 (decide (wval f = 0)) ?_ (.tmp 4) (.tmp 5) ?_ ?_ ?_ ?_ ?_); exact HE.out _; rfl; rfl; rfl; rfl))
  go_ret
  exact ⟨rfl, (Below.refl _ _).alloc (Nat.le_refl _) _⟩

set_option maxRecDepth 20000 in
set_option maxHeartbeats 1600000 in
theorem divZero (s t : ByteArray) (w : World) (hG : Gd w) (hs : s.size < 4294967281) (ht : t.size < 4294967281) (h : chk s.data.toList = true) (h2 : chk t.data.toList = true) (h0 : damt t.data.toList = 0) :
    Calls Tryz.prog 141 #[.string s, .string t] w fun e w' => e = .returned (.tuple #[.string ⟨#[]⟩, .int .i64 3]) ∧ Below w.heap.size w w' := by
  have hc : ∀ W, Gd W → Calls Tryz.prog 128 #[.string s, .string t] W fun e w' => ∃ c d f g, e = .returned (.tuple #[.agg c, .agg d, .bool true]) ∧ IsNum c (dsign s.data.toList) f ∧ wval f = damt s.data.toList ∧
      IsNum d (dsign t.data.toList) g ∧ wval g = damt t.data.toList ∧ Below W.heap.size W w' := fun W hW => bothYes s t W hW hs ht h h2
  have HC := Lib.hid hc
  have hz : ∀ (c : Array Value) (n : Bool) (f : Nat → Nat) W, IsNum c n f → wval f = damt t.data.toList → Calls Tryz.prog 163 #[.agg c] W fun e w' => e = .returned (.bool true) ∧ Below W.heap.size W w' := fun c n f W hc he => by
    have := isZ c n f W hc
    rwa [he, h0, decide_eq_true rfl] at this
  have HZ := Lib.hid hz
  clear hc hz h h2 hs ht h0
  go_enter Tryz.func141, Tryz.ntmps141
  go_wp2_with (first
    | (go_at_call 128; (with_reducible refine (HC.out _ hG).mono ?_); rintro e w1 ⟨c, d, f, g, rfl, hn, hx, hm, hy, hb⟩; have HX := Lib.hid hx; have HY := Lib.hid hy; clear hx hy; have l1 : Lies ((w1.alloc (.cells #[.bool false, .int .u32 0, .int .u32 0, .int .u32 0, .int .u32 0, .int .u32 0, .int .u32 0, .int .u32 0, .int .u32 0, .int .u32 0, .int .u32 0, .int .u32 0, .int .u32 0, .int .u32 0, .int .u32 0, .int .u32 0, .int .u32 0] 136)).alloc (.cells #[.bool false, .int .u32 0, .int .u32 0, .int .u32 0, .int .u32 0, .int .u32 0, .int .u32 0, .int .u32 0, .int .u32 0, .int .u32 0, .int .u32 0, .int .u32 0, .int .u32 0, .int .u32 0, .int .u32 0, .int .u32 0, .int .u32 0] 136)) w1.heap.size zero59 false (fun _ => 0) := (lies_zero _ rfl).alloc _; have l2 : Lies ((w1.alloc (.cells #[.bool false, .int .u32 0, .int .u32 0, .int .u32 0, .int .u32 0, .int .u32 0, .int .u32 0, .int .u32 0, .int .u32 0, .int .u32 0, .int .u32 0, .int .u32 0, .int .u32 0, .int .u32 0, .int .u32 0, .int .u32 0, .int .u32 0] 136)).alloc (.cells #[.bool false, .int .u32 0, .int .u32 0, .int .u32 0, .int .u32 0, .int .u32 0, .int .u32 0, .int .u32 0, .int .u32 0, .int .u32 0, .int .u32 0, .int .u32 0, .int .u32 0, .int .u32 0, .int .u32 0, .int .u32 0, .int .u32 0] 136)) (w1.heap.size + 1) zero59 false (fun _ => 0) := lies_zero _ (by simp); have hb1 : Below w.heap.size w ((w1.alloc (.cells #[.bool false, .int .u32 0, .int .u32 0, .int .u32 0, .int .u32 0, .int .u32 0, .int .u32 0, .int .u32 0, .int .u32 0, .int .u32 0, .int .u32 0, .int .u32 0, .int .u32 0, .int .u32 0, .int .u32 0, .int .u32 0, .int .u32 0] 136)).alloc (.cells #[.bool false, .int .u32 0, .int .u32 0, .int .u32 0, .int .u32 0, .int .u32 0, .int .u32 0, .int .u32 0, .int .u32 0, .int .u32 0, .int .u32 0, .int .u32 0, .int .u32 0, .int .u32 0, .int .u32 0, .int .u32 0, .int .u32 0] 136)) := (hb.alloc hb.size _).alloc (by have := hb.size; simp; omega) _; have hsz := hb.size)
    | ((with_reducible refine wpList_storeN (.tmp 6) (.tmp 15) w1.heap.size (by assumption) hn ?_ ?_ ?_ ?_ ?_); rfl; rfl; rfl; rfl; intro w2 ho p1; have p2 := l2.only ho (by omega); have hb2 := below_only hb1 ho hsz (Nat.le_of_lt (Nat.lt_of_le_of_lt hsz l1.lt)))
    | ((with_reducible refine wpList_storeN (.tmp 7) (.tmp 16) (w1.heap.size + 1) (by assumption) hm ?_ ?_ ?_ ?_ ?_); rfl; rfl; rfl; rfl; intro w3 ho3 q2; have q1 := p1.only ho3 (by omega); have hb3 := below_only hb2 ho3 (by omega) (Nat.le_of_lt (Nat.lt_of_le_of_lt hsz p1.lt)))
    | ((with_reducible refine wpList_loadN (.tmp 7) (w1.heap.size + 1) (by assumption) ?_ ?_ ?_ ?_); rfl; rfl; rfl)
    | (go_at_call 163; (with_reducible refine (HZ.out d _ g _ hm HY.out).mono ?_); rintro e w4 ⟨rfl, hb4⟩; have hb5 := below_any hb3 hb4 hb3.size))
  go_ret2
  exact ⟨rfl, hb5⟩

set_option maxRecDepth 20000 in
set_option maxHeartbeats 1600000 in
theorem divYes (s t : ByteArray) (w : World) (hG : Gd w) (hs : s.size < 4294967281) (ht : t.size < 4294967281) (h : chk s.data.toList = true) (h2 : chk t.data.toList = true) (h0 : damt t.data.toList ≠ 0) (x : ByteArray) (k : Int)
    (hv : said (txt (dquo s.data.toList t.data.toList)) = .tuple #[.string x, .int .i64 k]) :
    Calls Tryz.prog 141 #[.string s, .string t] w fun e w' => e = .returned (.tuple #[.string x, .int .i64 k]) ∧ Below w.heap.size w w' := by
  have hc : ∀ W, Gd W → Calls Tryz.prog 128 #[.string s, .string t] W fun e w' => ∃ c d f g, e = .returned (.tuple #[.agg c, .agg d, .bool true]) ∧ IsNum c (dsign s.data.toList) f ∧ wval f = damt s.data.toList ∧
      IsNum d (dsign t.data.toList) g ∧ wval g = damt t.data.toList ∧ Below W.heap.size W w' := fun W hW => bothYes s t W hW hs ht h h2
  have HC := Lib.hid hc
  have hz : ∀ (c : Array Value) (n : Bool) (f : Nat → Nat) W, IsNum c n f → wval f = damt t.data.toList → Calls Tryz.prog 163 #[.agg c] W fun e w' => e = .returned (.bool false) ∧ Below W.heap.size W w' := fun c n f W hc he => by
    have := isZ c n f W hc
    rwa [he, decide_eq_false h0] at this
  have HZ := Lib.hid hz
  obtain ⟨X, hX⟩ : ∃ X, X = bs (digsOf (damt s.data.toList * 10 ^ 20 / damt t.data.toList) 20 144) := ⟨_, rfl⟩
  obtain ⟨Y, hY⟩ : ∃ Y, Y = bs (digsOf (damt s.data.toList * 10 ^ 20 / damt t.data.toList) 0 20) := ⟨_, rfl⟩
  have hXs : X.size ≤ maxLen := by rw [hX]; unfold maxLen; simp [ByteArray.size, digsOf_len]
  have hYs : Y.size ≤ maxLen := by rw [hY]; unfold maxLen; simp [ByteArray.size, digsOf_len]
  have hov : ∀ (c d : Array Value) (n m : Bool) (f g : Nat → Nat) W, IsNum c n f → wval f = damt s.data.toList → IsNum d m g → wval g = damt t.data.toList → Calls Tryz.prog 164 #[.agg c, .agg d] W fun e w' => e = .returned (.tuple #[.string X, .string Y]) ∧ Below W.heap.size W w' := fun c d n m f g W hc e1 hd e2 => by
    have hlt := (chk_dec _ h2).2.1
    have eb : BASE ^ 16 = 10 ^ 144 := base_pow 16
    have : (10 : Nat) ^ 94 * 10 ≤ 10 ^ 144 := by decide
    exact overAt c d n m f g W hc hd (by rw [e2]; omega) (by rw [e2, eb]; omega) X Y (Lib.hid (by rw [e1, e2, hX])) (Lib.hid (by rw [e1, e2, hY]))
  have HOV := Lib.hid hov
  have hw : ∀ W, Calls Tryz.prog 148 #[.bool (dsign s.data.toList != dsign t.data.toList), .string X, .string Y] W fun r w' => r = .returned (.tuple #[.string x, .int .i64 k]) ∧ W = w' := fun W => by
    have h3 := writeAt (dsign s.data.toList != dsign t.data.toList) X Y W hXs hYs
    have h4 : wr (dsign s.data.toList != dsign t.data.toList) X.data.toList Y.data.toList = txt (dquo s.data.toList t.data.toList) := by rw [hX, hY]; exact quo_text _ _ h h2 h0
    rwa [h4, hv] at h3
  have HW := Lib.hid hw
  clear hc hz hov hw hv hX hY hXs hYs h h2 hs ht h0
  generalize dsign s.data.toList = sn at *
  generalize dsign t.data.toList = tn at *
  obtain ⟨bb, hbb⟩ : ∃ bb, bb = (sn != tn) := ⟨_, rfl⟩
  rw [← hbb] at HW
  have hbb' : (sn != tn) = bb := hbb.symm
  have hbb2 : (sn == tn) = !bb := by rw [hbb]; cases sn <;> cases tn <;> rfl
  clear hbb
  go_enter Tryz.func141, Tryz.ntmps141
  go_wp2_with (first
    | (go_at_call 128; (with_reducible refine (HC.out _ hG).mono ?_); rintro e w1 ⟨c, d, f, g, rfl, hn, hx, hm, hy, hb⟩; have HX := Lib.hid hx; have HY := Lib.hid hy; clear hx hy; have l1 : Lies ((w1.alloc (.cells #[.bool false, .int .u32 0, .int .u32 0, .int .u32 0, .int .u32 0, .int .u32 0, .int .u32 0, .int .u32 0, .int .u32 0, .int .u32 0, .int .u32 0, .int .u32 0, .int .u32 0, .int .u32 0, .int .u32 0, .int .u32 0, .int .u32 0] 136)).alloc (.cells #[.bool false, .int .u32 0, .int .u32 0, .int .u32 0, .int .u32 0, .int .u32 0, .int .u32 0, .int .u32 0, .int .u32 0, .int .u32 0, .int .u32 0, .int .u32 0, .int .u32 0, .int .u32 0, .int .u32 0, .int .u32 0, .int .u32 0] 136)) w1.heap.size zero59 false (fun _ => 0) := (lies_zero _ rfl).alloc _; have l2 : Lies ((w1.alloc (.cells #[.bool false, .int .u32 0, .int .u32 0, .int .u32 0, .int .u32 0, .int .u32 0, .int .u32 0, .int .u32 0, .int .u32 0, .int .u32 0, .int .u32 0, .int .u32 0, .int .u32 0, .int .u32 0, .int .u32 0, .int .u32 0, .int .u32 0] 136)).alloc (.cells #[.bool false, .int .u32 0, .int .u32 0, .int .u32 0, .int .u32 0, .int .u32 0, .int .u32 0, .int .u32 0, .int .u32 0, .int .u32 0, .int .u32 0, .int .u32 0, .int .u32 0, .int .u32 0, .int .u32 0, .int .u32 0, .int .u32 0] 136)) (w1.heap.size + 1) zero59 false (fun _ => 0) := lies_zero _ (by simp); have hb1 : Below w.heap.size w ((w1.alloc (.cells #[.bool false, .int .u32 0, .int .u32 0, .int .u32 0, .int .u32 0, .int .u32 0, .int .u32 0, .int .u32 0, .int .u32 0, .int .u32 0, .int .u32 0, .int .u32 0, .int .u32 0, .int .u32 0, .int .u32 0, .int .u32 0, .int .u32 0] 136)).alloc (.cells #[.bool false, .int .u32 0, .int .u32 0, .int .u32 0, .int .u32 0, .int .u32 0, .int .u32 0, .int .u32 0, .int .u32 0, .int .u32 0, .int .u32 0, .int .u32 0, .int .u32 0, .int .u32 0, .int .u32 0, .int .u32 0, .int .u32 0] 136)) := (hb.alloc hb.size _).alloc (by have := hb.size; simp; omega) _; have hsz := hb.size)
    | ((with_reducible refine wpList_storeN (.tmp 6) (.tmp 15) w1.heap.size (by assumption) hn ?_ ?_ ?_ ?_ ?_); rfl; rfl; rfl; rfl; intro w2 ho p1; have p2 := l2.only ho (by omega); have hb2 := below_only hb1 ho hsz (Nat.le_of_lt (Nat.lt_of_le_of_lt hsz l1.lt)))
    | ((with_reducible refine wpList_storeN (.tmp 7) (.tmp 16) (w1.heap.size + 1) (by assumption) hm ?_ ?_ ?_ ?_ ?_); rfl; rfl; rfl; rfl; intro w3 ho3 q2; have q1 := p1.only ho3 (by omega); have hb3 := below_only hb2 ho3 (by omega) (Nat.le_of_lt (Nat.lt_of_le_of_lt hsz p1.lt)))
    | ((with_reducible refine wpList_loadN (.tmp 6) w1.heap.size (by assumption) ?_ ?_ ?_ ?_); rfl; rfl; rfl)
    | ((with_reducible refine wpList_loadN (.tmp 7) (w1.heap.size + 1) (by assumption) ?_ ?_ ?_ ?_); rfl; rfl; rfl)
    | (go_at_call 163; (with_reducible refine (HZ.out d _ g _ hm HY.out).mono ?_); rintro e w4 ⟨rfl, hb4⟩; have hb5 := below_any hb3 hb4 hb3.size; have x1 := q1.below hb4; have x2 := q2.below hb4)
    | (go_at_call 164; (with_reducible refine (HOV.out c d _ _ f g _ hn HX.out hm HY.out).mono ?_); rintro e w5 ⟨rfl, hb6⟩; have hb7 := below_any hb5 hb6 hb5.size; have y1 := (x1.below hb6).cell0; have y2 := (x2.below hb6).cell0)
    | (go_at_call 148; (with_reducible refine (HW.out _).mono ?_); rintro e w6 ⟨rfl, rfl⟩))
  go_ret2
  exact ⟨rfl, hb7⟩

end Go.Proofs.YtoifjjgakblhhaaGreatDoor

/- What two numbers make, by the program: whole ones, decimals. -/
namespace Go.Proofs.YtoifjjgakblhhaaGreatDoor
open Go.RowKit

/-- A value that lies in no list, and a word of error. -/
def RPost (w : World) (k n : Int) (t : ByteArray) (e9 : Int) (e : Ending) (w' : World) : Prop := e = .returned (.tuple #[.agg #[.int .i64 k, .bool false, .int .i64 n, .string t, .string ⟨#[]⟩, .slice none 0 0], .int .i64 e9]) ∧ Below w.heap.size w w'

set_option maxRecDepth 20000 in
set_option maxHeartbeats 3200000 in
theorem riAddYes (a b : Int) (a0 : -9223372036854775808 ≤ a) (a1 : a ≤ 9223372036854775807) (b0' : -9223372036854775808 ≤ b) (b1 : b ≤ 9223372036854775807) (hr : inI (a + b) = true) (w : World) :
    Calls Tryz.prog 101 #[.int .i64 17, .int .i64 a, .int .i64 b] w (RPost w (2) (a + b) ⟨#[]⟩ (0)) := by
  obtain ⟨W0, hW0⟩ : ∃ W0, W0 = w.alloc (.cells #[.int .i64 0, .bool false, .int .i64 0, .string ⟨#[]⟩, .string ⟨#[]⟩, .slice none 0 0] 28) := ⟨_, rfl⟩
  have S : Six W0 w.heap.size 0 false 0 ⟨#[]⟩ ⟨#[]⟩ none 0 0 := by rw [hW0]; exact six_new _ rfl
  have b0 : Below w.heap.size w W0 := by rw [hW0]; exact below1 _ _
  have hc := fun W => addIntsAt a b W a0 a1 b0' b1
  rw [hr] at hc
  rw [wrap_in hr] at hc
  generalize a + b = m at hc ⊢
  have H0 := Lib.hid hW0
  clear hW0
  go_enter Tryz.func101, Tryz.ntmps101
  go_wp2_with (first
    | (go_at_call 134; (with_reducible refine (hc _).mono ?_); rintro e w' ⟨rfl, rfl⟩)
    | ((try rw [← H0.out]); (with_reducible refine wpList_store6 (k' := 2) (b' := false) (n' := m) (t' := ⟨#[]⟩) (x' := ⟨#[]⟩) (p' := none) (len' := 0) (cap' := 0) (.tmp 6) (.tmp 49) w.heap.size S ?_ ?_ ?_ ?_ ?_); rfl; rfl; rfl; rfl; intro w9 on9 S9))
  refine bodyPost_ret (results_six_tmp (p := 6) (q := 7) Tryz.results101 _ (.int .i64 (0)) rfl rfl S9) rfl ⟨rfl, below_only b0 on9 (Nat.le_refl _) b0.size⟩

set_option maxRecDepth 20000 in
set_option maxHeartbeats 3200000 in
theorem riAddNo (a b : Int) (a0 : -9223372036854775808 ≤ a) (a1 : a ≤ 9223372036854775807) (b0' : -9223372036854775808 ≤ b) (b1 : b ≤ 9223372036854775807) (hr : inI (a + b) = false) (w : World) :
    Calls Tryz.prog 101 #[.int .i64 17, .int .i64 a, .int .i64 b] w (RPost w (0) (0) ⟨#[]⟩ (2)) := by
  obtain ⟨W0, hW0⟩ : ∃ W0, W0 = w.alloc (.cells #[.int .i64 0, .bool false, .int .i64 0, .string ⟨#[]⟩, .string ⟨#[]⟩, .slice none 0 0] 28) := ⟨_, rfl⟩
  have S : Six W0 w.heap.size 0 false 0 ⟨#[]⟩ ⟨#[]⟩ none 0 0 := by rw [hW0]; exact six_new _ rfl
  have b0 : Below w.heap.size w W0 := by rw [hW0]; exact below1 _ _
  have hc := fun W => addIntsAt a b W a0 a1 b0' b1
  rw [hr] at hc
  have H0 := Lib.hid hW0
  clear hW0
  go_enter Tryz.func101, Tryz.ntmps101
  go_wp2_with (first
    | (go_at_call 134; (with_reducible refine (hc _).mono ?_); rintro e w' ⟨rfl, rfl⟩)
    | ((try rw [← H0.out]); (with_reducible refine wpList_store6 (k' := 0) (b' := false) (n' := 0) (t' := ⟨#[]⟩) (x' := ⟨#[]⟩) (p' := none) (len' := 0) (cap' := 0) (.tmp 6) (.tmp 47) w.heap.size S ?_ ?_ ?_ ?_ ?_); rfl; rfl; rfl; rfl; intro w9 on9 S9))
  refine bodyPost_ret (results_six_tmp (p := 6) (q := 7) Tryz.results101 _ (.int .i64 (2)) rfl rfl S9) rfl ⟨rfl, below_only b0 on9 (Nat.le_refl _) b0.size⟩

set_option maxRecDepth 20000 in
set_option maxHeartbeats 3200000 in
theorem riSubYes (a b : Int) (a0 : -9223372036854775808 ≤ a) (a1 : a ≤ 9223372036854775807) (b0' : -9223372036854775808 ≤ b) (b1 : b ≤ 9223372036854775807) (hr : inI (a - b) = true) (w : World) :
    Calls Tryz.prog 101 #[.int .i64 18, .int .i64 a, .int .i64 b] w (RPost w (2) (a - b) ⟨#[]⟩ (0)) := by
  obtain ⟨W0, hW0⟩ : ∃ W0, W0 = w.alloc (.cells #[.int .i64 0, .bool false, .int .i64 0, .string ⟨#[]⟩, .string ⟨#[]⟩, .slice none 0 0] 28) := ⟨_, rfl⟩
  have S : Six W0 w.heap.size 0 false 0 ⟨#[]⟩ ⟨#[]⟩ none 0 0 := by rw [hW0]; exact six_new _ rfl
  have b0 : Below w.heap.size w W0 := by rw [hW0]; exact below1 _ _
  have hc := fun W => subIntsAt a b W a0 a1 b0' b1
  rw [hr] at hc
  rw [wrap_in hr] at hc
  generalize a - b = m at hc ⊢
  have H0 := Lib.hid hW0
  clear hW0
  go_enter Tryz.func101, Tryz.ntmps101
  go_wp2_with (first
    | (go_at_call 135; (with_reducible refine (hc _).mono ?_); rintro e w' ⟨rfl, rfl⟩)
    | ((try rw [← H0.out]); (with_reducible refine wpList_store6 (k' := 2) (b' := false) (n' := m) (t' := ⟨#[]⟩) (x' := ⟨#[]⟩) (p' := none) (len' := 0) (cap' := 0) (.tmp 6) (.tmp 49) w.heap.size S ?_ ?_ ?_ ?_ ?_); rfl; rfl; rfl; rfl; intro w9 on9 S9))
  refine bodyPost_ret (results_six_tmp (p := 6) (q := 7) Tryz.results101 _ (.int .i64 (0)) rfl rfl S9) rfl ⟨rfl, below_only b0 on9 (Nat.le_refl _) b0.size⟩

set_option maxRecDepth 20000 in
set_option maxHeartbeats 3200000 in
theorem riSubNo (a b : Int) (a0 : -9223372036854775808 ≤ a) (a1 : a ≤ 9223372036854775807) (b0' : -9223372036854775808 ≤ b) (b1 : b ≤ 9223372036854775807) (hr : inI (a - b) = false) (w : World) :
    Calls Tryz.prog 101 #[.int .i64 18, .int .i64 a, .int .i64 b] w (RPost w (0) (0) ⟨#[]⟩ (2)) := by
  obtain ⟨W0, hW0⟩ : ∃ W0, W0 = w.alloc (.cells #[.int .i64 0, .bool false, .int .i64 0, .string ⟨#[]⟩, .string ⟨#[]⟩, .slice none 0 0] 28) := ⟨_, rfl⟩
  have S : Six W0 w.heap.size 0 false 0 ⟨#[]⟩ ⟨#[]⟩ none 0 0 := by rw [hW0]; exact six_new _ rfl
  have b0 : Below w.heap.size w W0 := by rw [hW0]; exact below1 _ _
  have hc := fun W => subIntsAt a b W a0 a1 b0' b1
  rw [hr] at hc
  have H0 := Lib.hid hW0
  clear hW0
  go_enter Tryz.func101, Tryz.ntmps101
  go_wp2_with (first
    | (go_at_call 135; (with_reducible refine (hc _).mono ?_); rintro e w' ⟨rfl, rfl⟩)
    | ((try rw [← H0.out]); (with_reducible refine wpList_store6 (k' := 0) (b' := false) (n' := 0) (t' := ⟨#[]⟩) (x' := ⟨#[]⟩) (p' := none) (len' := 0) (cap' := 0) (.tmp 6) (.tmp 47) w.heap.size S ?_ ?_ ?_ ?_ ?_); rfl; rfl; rfl; rfl; intro w9 on9 S9))
  refine bodyPost_ret (results_six_tmp (p := 6) (q := 7) Tryz.results101 _ (.int .i64 (2)) rfl rfl S9) rfl ⟨rfl, below_only b0 on9 (Nat.le_refl _) b0.size⟩

set_option maxRecDepth 20000 in
set_option maxHeartbeats 3200000 in
theorem riMulYes (a b : Int) (a0 : -9223372036854775808 ≤ a) (a1 : a ≤ 9223372036854775807) (b0' : -9223372036854775808 ≤ b) (b1 : b ≤ 9223372036854775807) (hr : inI (a * b) = true) (w : World) :
    Calls Tryz.prog 101 #[.int .i64 19, .int .i64 a, .int .i64 b] w (RPost w (2) (a * b) ⟨#[]⟩ (0)) := by
  obtain ⟨W0, hW0⟩ : ∃ W0, W0 = w.alloc (.cells #[.int .i64 0, .bool false, .int .i64 0, .string ⟨#[]⟩, .string ⟨#[]⟩, .slice none 0 0] 28) := ⟨_, rfl⟩
  have S : Six W0 w.heap.size 0 false 0 ⟨#[]⟩ ⟨#[]⟩ none 0 0 := by rw [hW0]; exact six_new _ rfl
  have b0 : Below w.heap.size w W0 := by rw [hW0]; exact below1 _ _
  have hc := fun W => mulIntsAt a b W a0 a1 b0' b1
  rw [hr] at hc
  rw [wrap_in hr] at hc
  generalize a * b = m at hc ⊢
  have H0 := Lib.hid hW0
  clear hW0
  go_enter Tryz.func101, Tryz.ntmps101
  go_wp2_with (first
    | (go_at_call 136; (with_reducible refine (hc _).mono ?_); rintro e w' ⟨rfl, rfl⟩)
    | ((try rw [← H0.out]); (with_reducible refine wpList_store6 (k' := 2) (b' := false) (n' := m) (t' := ⟨#[]⟩) (x' := ⟨#[]⟩) (p' := none) (len' := 0) (cap' := 0) (.tmp 6) (.tmp 49) w.heap.size S ?_ ?_ ?_ ?_ ?_); rfl; rfl; rfl; rfl; intro w9 on9 S9))
  refine bodyPost_ret (results_six_tmp (p := 6) (q := 7) Tryz.results101 _ (.int .i64 (0)) rfl rfl S9) rfl ⟨rfl, below_only b0 on9 (Nat.le_refl _) b0.size⟩

set_option maxRecDepth 20000 in
set_option maxHeartbeats 3200000 in
theorem riMulNo (a b : Int) (a0 : -9223372036854775808 ≤ a) (a1 : a ≤ 9223372036854775807) (b0' : -9223372036854775808 ≤ b) (b1 : b ≤ 9223372036854775807) (hr : inI (a * b) = false) (w : World) :
    Calls Tryz.prog 101 #[.int .i64 19, .int .i64 a, .int .i64 b] w (RPost w (0) (0) ⟨#[]⟩ (2)) := by
  obtain ⟨W0, hW0⟩ : ∃ W0, W0 = w.alloc (.cells #[.int .i64 0, .bool false, .int .i64 0, .string ⟨#[]⟩, .string ⟨#[]⟩, .slice none 0 0] 28) := ⟨_, rfl⟩
  have S : Six W0 w.heap.size 0 false 0 ⟨#[]⟩ ⟨#[]⟩ none 0 0 := by rw [hW0]; exact six_new _ rfl
  have b0 : Below w.heap.size w W0 := by rw [hW0]; exact below1 _ _
  have hc := fun W => mulIntsAt a b W a0 a1 b0' b1
  rw [hr] at hc
  have H0 := Lib.hid hW0
  clear hW0
  go_enter Tryz.func101, Tryz.ntmps101
  go_wp2_with (first
    | (go_at_call 136; (with_reducible refine (hc _).mono ?_); rintro e w' ⟨rfl, rfl⟩)
    | ((try rw [← H0.out]); (with_reducible refine wpList_store6 (k' := 0) (b' := false) (n' := 0) (t' := ⟨#[]⟩) (x' := ⟨#[]⟩) (p' := none) (len' := 0) (cap' := 0) (.tmp 6) (.tmp 47) w.heap.size S ?_ ?_ ?_ ?_ ?_); rfl; rfl; rfl; rfl; intro w9 on9 S9))
  refine bodyPost_ret (results_six_tmp (p := 6) (q := 7) Tryz.results101 _ (.int .i64 (2)) rfl rfl S9) rfl ⟨rfl, below_only b0 on9 (Nat.le_refl _) b0.size⟩

set_option maxRecDepth 20000 in
set_option maxHeartbeats 3200000 in
theorem riQuoZero (a : Int) (w : World) :
    Calls Tryz.prog 101 #[.int .i64 20, .int .i64 a, .int .i64 0] w (RPost w (0) (0) ⟨#[]⟩ (3)) := by
  obtain ⟨W0, hW0⟩ : ∃ W0, W0 = w.alloc (.cells #[.int .i64 0, .bool false, .int .i64 0, .string ⟨#[]⟩, .string ⟨#[]⟩, .slice none 0 0] 28) := ⟨_, rfl⟩
  have S : Six W0 w.heap.size 0 false 0 ⟨#[]⟩ ⟨#[]⟩ none 0 0 := by rw [hW0]; exact six_new _ rfl
  have b0 : Below w.heap.size w W0 := by rw [hW0]; exact below1 _ _
  have H0 := Lib.hid hW0
  clear hW0
  go_enter Tryz.func101, Tryz.ntmps101
  go_wp2_with (first
    | ((try rw [← H0.out]); (with_reducible refine wpList_store6 (k' := 0) (b' := false) (n' := 0) (t' := ⟨#[]⟩) (x' := ⟨#[]⟩) (p' := none) (len' := 0) (cap' := 0) (.tmp 6) (.tmp 13) w.heap.size S ?_ ?_ ?_ ?_ ?_); rfl; rfl; rfl; rfl; intro w9 on9 S9))
  refine bodyPost_ret (results_six_tmp (p := 6) (q := 7) Tryz.results101 _ (.int .i64 (3)) rfl rfl S9) rfl ⟨rfl, below_only b0 on9 (Nat.le_refl _) b0.size⟩

set_option maxRecDepth 20000 in
set_option maxHeartbeats 3200000 in
theorem riRemZero (a : Int) (w : World) :
    Calls Tryz.prog 101 #[.int .i64 21, .int .i64 a, .int .i64 0] w (RPost w (0) (0) ⟨#[]⟩ (3)) := by
  obtain ⟨W0, hW0⟩ : ∃ W0, W0 = w.alloc (.cells #[.int .i64 0, .bool false, .int .i64 0, .string ⟨#[]⟩, .string ⟨#[]⟩, .slice none 0 0] 28) := ⟨_, rfl⟩
  have S : Six W0 w.heap.size 0 false 0 ⟨#[]⟩ ⟨#[]⟩ none 0 0 := by rw [hW0]; exact six_new _ rfl
  have b0 : Below w.heap.size w W0 := by rw [hW0]; exact below1 _ _
  have H0 := Lib.hid hW0
  clear hW0
  go_enter Tryz.func101, Tryz.ntmps101
  go_wp2_with (first
    | ((try rw [← H0.out]); (with_reducible refine wpList_store6 (k' := 0) (b' := false) (n' := 0) (t' := ⟨#[]⟩) (x' := ⟨#[]⟩) (p' := none) (len' := 0) (cap' := 0) (.tmp 6) (.tmp 13) w.heap.size S ?_ ?_ ?_ ?_ ?_); rfl; rfl; rfl; rfl; intro w9 on9 S9))
  refine bodyPost_ret (results_six_tmp (p := 6) (q := 7) Tryz.results101 _ (.int .i64 (3)) rfl rfl S9) rfl ⟨rfl, below_only b0 on9 (Nat.le_refl _) b0.size⟩

set_option maxRecDepth 20000 in
set_option maxHeartbeats 3200000 in
theorem riQuoYes (a b : Int) (a0 : -9223372036854775808 ≤ a) (a1 : a ≤ 9223372036854775807) (b0' : -9223372036854775808 ≤ b) (b1 : b ≤ 9223372036854775807) (hb : ¬ b = 0) (hr : inI (a.tdiv b) = true) (w : World) :
    Calls Tryz.prog 101 #[.int .i64 20, .int .i64 a, .int .i64 b] w (RPost w (2) (a.tdiv b) ⟨#[]⟩ (0)) := by
  obtain ⟨W0, hW0⟩ : ∃ W0, W0 = w.alloc (.cells #[.int .i64 0, .bool false, .int .i64 0, .string ⟨#[]⟩, .string ⟨#[]⟩, .slice none 0 0] 28) := ⟨_, rfl⟩
  have S : Six W0 w.heap.size 0 false 0 ⟨#[]⟩ ⟨#[]⟩ none 0 0 := by rw [hW0]; exact six_new _ rfl
  have b0 : Below w.heap.size w W0 := by rw [hW0]; exact below1 _ _
  have hc := fun W => divIntsQuo a b W a0 a1 hb
  rw [hr] at hc
  rw [wrap_in hr] at hc
  generalize a.tdiv b = m at hc ⊢
  have H0 := Lib.hid hW0
  clear hW0
  go_enter Tryz.func101, Tryz.ntmps101
  go_wp2_with (first
    | (go_at_call 137; (with_reducible refine (hc _).mono ?_); rintro e w' ⟨rfl, rfl⟩)
    | ((try rw [← H0.out]); (with_reducible refine wpList_store6 (k' := 2) (b' := false) (n' := m) (t' := ⟨#[]⟩) (x' := ⟨#[]⟩) (p' := none) (len' := 0) (cap' := 0) (.tmp 6) (.tmp 49) w.heap.size S ?_ ?_ ?_ ?_ ?_); rfl; rfl; rfl; rfl; intro w9 on9 S9))
  refine bodyPost_ret (results_six_tmp (p := 6) (q := 7) Tryz.results101 _ (.int .i64 (0)) rfl rfl S9) rfl ⟨rfl, below_only b0 on9 (Nat.le_refl _) b0.size⟩

set_option maxRecDepth 20000 in
set_option maxHeartbeats 3200000 in
theorem riQuoNo (a b : Int) (a0 : -9223372036854775808 ≤ a) (a1 : a ≤ 9223372036854775807) (b0' : -9223372036854775808 ≤ b) (b1 : b ≤ 9223372036854775807) (hb : ¬ b = 0) (hr : inI (a.tdiv b) = false) (w : World) :
    Calls Tryz.prog 101 #[.int .i64 20, .int .i64 a, .int .i64 b] w (RPost w (0) (0) ⟨#[]⟩ (2)) := by
  obtain ⟨W0, hW0⟩ : ∃ W0, W0 = w.alloc (.cells #[.int .i64 0, .bool false, .int .i64 0, .string ⟨#[]⟩, .string ⟨#[]⟩, .slice none 0 0] 28) := ⟨_, rfl⟩
  have S : Six W0 w.heap.size 0 false 0 ⟨#[]⟩ ⟨#[]⟩ none 0 0 := by rw [hW0]; exact six_new _ rfl
  have b0 : Below w.heap.size w W0 := by rw [hW0]; exact below1 _ _
  have hc := fun W => divIntsQuo a b W a0 a1 hb
  rw [hr] at hc
  have H0 := Lib.hid hW0
  clear hW0
  go_enter Tryz.func101, Tryz.ntmps101
  go_wp2_with (first
    | (go_at_call 137; (with_reducible refine (hc _).mono ?_); rintro e w' ⟨rfl, rfl⟩)
    | ((try rw [← H0.out]); (with_reducible refine wpList_store6 (k' := 0) (b' := false) (n' := 0) (t' := ⟨#[]⟩) (x' := ⟨#[]⟩) (p' := none) (len' := 0) (cap' := 0) (.tmp 6) (.tmp 47) w.heap.size S ?_ ?_ ?_ ?_ ?_); rfl; rfl; rfl; rfl; intro w9 on9 S9))
  refine bodyPost_ret (results_six_tmp (p := 6) (q := 7) Tryz.results101 _ (.int .i64 (2)) rfl rfl S9) rfl ⟨rfl, below_only b0 on9 (Nat.le_refl _) b0.size⟩

set_option maxRecDepth 20000 in
set_option maxHeartbeats 3200000 in
theorem riRemYes (a b : Int) (hb : ¬ b = 0) (w : World) :
    Calls Tryz.prog 101 #[.int .i64 21, .int .i64 a, .int .i64 b] w (RPost w (2) (a.tmod b) ⟨#[]⟩ (0)) := by
  obtain ⟨W0, hW0⟩ : ∃ W0, W0 = w.alloc (.cells #[.int .i64 0, .bool false, .int .i64 0, .string ⟨#[]⟩, .string ⟨#[]⟩, .slice none 0 0] 28) := ⟨_, rfl⟩
  have S : Six W0 w.heap.size 0 false 0 ⟨#[]⟩ ⟨#[]⟩ none 0 0 := by rw [hW0]; exact six_new _ rfl
  have b0 : Below w.heap.size w W0 := by rw [hW0]; exact below1 _ _
  have hc := fun W => divIntsRem a b W hb
  generalize a.tmod b = m at hc ⊢
  have H0 := Lib.hid hW0
  clear hW0
  go_enter Tryz.func101, Tryz.ntmps101
  go_wp2_with (first
    | (go_at_call 137; (with_reducible refine (hc _).mono ?_); rintro e w' ⟨rfl, rfl⟩)
    | ((try rw [← H0.out]); (with_reducible refine wpList_store6 (k' := 2) (b' := false) (n' := m) (t' := ⟨#[]⟩) (x' := ⟨#[]⟩) (p' := none) (len' := 0) (cap' := 0) (.tmp 6) (.tmp 49) w.heap.size S ?_ ?_ ?_ ?_ ?_); rfl; rfl; rfl; rfl; intro w9 on9 S9))
  refine bodyPost_ret (results_six_tmp (p := 6) (q := 7) Tryz.results101 _ (.int .i64 (0)) rfl rfl S9) rfl ⟨rfl, below_only b0 on9 (Nat.le_refl _) b0.size⟩

set_option maxRecDepth 20000 in
set_option maxHeartbeats 3200000 in
theorem rdAddYes (s t X : ByteArray) (c : Int) (hk : c = 0) (w : World) (hc : ∀ W, Below w.heap.size w W → Calls Tryz.prog 138 #[.string s, .string t] W fun e w' => e = .returned (.tuple #[.string X, .int .i64 c]) ∧ Below W.heap.size W w') :
    Calls Tryz.prog 102 #[.int .i64 17, .string s, .string t] w (RPost w (3) (0) X (0)) := by
  obtain ⟨W0, hW0⟩ : ∃ W0, W0 = w.alloc (.cells #[.int .i64 0, .bool false, .int .i64 0, .string ⟨#[]⟩, .string ⟨#[]⟩, .slice none 0 0] 28) := ⟨_, rfl⟩
  have S : Six W0 w.heap.size 0 false 0 ⟨#[]⟩ ⟨#[]⟩ none 0 0 := by rw [hW0]; exact six_new _ rfl
  have b0 : Below w.heap.size w W0 := by rw [hW0]; exact below1 _ _
  subst hk
  have H0 := Lib.hid hW0
  clear hW0
  go_enter Tryz.func102, Tryz.ntmps102
  go_wp2_with (first
    | (go_at_call 138; (try rw [← H0.out]); (with_reducible refine (hc _ b0).mono ?_); rintro e w' ⟨rfl, hb⟩; replace S := S.below hb; replace b0 := below_any b0 hb b0.size; clear hb)
    | ((try rw [← H0.out]); (with_reducible refine wpList_store6 (k' := 3) (b' := false) (n' := 0) (t' := X) (x' := ⟨#[]⟩) (p' := none) (len' := 0) (cap' := 0) (.tmp 6) (.tmp 48) w.heap.size S ?_ ?_ ?_ ?_ ?_); rfl; rfl; rfl; rfl; intro w9 on9 S9))
  refine bodyPost_ret (results_six_tmp (p := 6) (q := 7) Tryz.results102 _ (.int .i64 (0)) rfl rfl S9) rfl ⟨rfl, below_only b0 on9 (Nat.le_refl _) b0.size⟩

set_option maxRecDepth 20000 in
set_option maxHeartbeats 3200000 in
theorem rdAddNo (s t X : ByteArray) (c : Int) (hk : c ≠ 0) (w : World) (hc : ∀ W, Below w.heap.size w W → Calls Tryz.prog 138 #[.string s, .string t] W fun e w' => e = .returned (.tuple #[.string X, .int .i64 c]) ∧ Below W.heap.size W w') :
    Calls Tryz.prog 102 #[.int .i64 17, .string s, .string t] w (RPost w (0) (0) ⟨#[]⟩ (c)) := by
  obtain ⟨W0, hW0⟩ : ∃ W0, W0 = w.alloc (.cells #[.int .i64 0, .bool false, .int .i64 0, .string ⟨#[]⟩, .string ⟨#[]⟩, .slice none 0 0] 28) := ⟨_, rfl⟩
  have S : Six W0 w.heap.size 0 false 0 ⟨#[]⟩ ⟨#[]⟩ none 0 0 := by rw [hW0]; exact six_new _ rfl
  have b0 : Below w.heap.size w W0 := by rw [hW0]; exact below1 _ _
  have hne : (c != 0) = true := by simpa using hk
  have H0 := Lib.hid hW0
  clear hW0
  go_enter Tryz.func102, Tryz.ntmps102
  go_wp2_with (first
    | (go_at_call 138; (try rw [← H0.out]); (with_reducible refine (hc _ b0).mono ?_); rintro e w' ⟨rfl, hb⟩; replace S := S.below hb; replace b0 := below_any b0 hb b0.size; clear hb)
    | ((try rw [← H0.out]); (with_reducible refine wpList_store6 (k' := 0) (b' := false) (n' := 0) (t' := ⟨#[]⟩) (x' := ⟨#[]⟩) (p' := none) (len' := 0) (cap' := 0) (.tmp 6) (.tmp 45) w.heap.size S ?_ ?_ ?_ ?_ ?_); rfl; rfl; rfl; rfl; intro w9 on9 S9))
  refine bodyPost_ret (results_six_tmp (p := 6) (q := 7) Tryz.results102 _ (.int .i64 (c)) rfl rfl S9) rfl ⟨rfl, below_only b0 on9 (Nat.le_refl _) b0.size⟩

set_option maxRecDepth 20000 in
set_option maxHeartbeats 3200000 in
theorem rdSubYes (s t X : ByteArray) (c : Int) (hk : c = 0) (w : World) (hc : ∀ W, Below w.heap.size w W → Calls Tryz.prog 139 #[.string s, .string t] W fun e w' => e = .returned (.tuple #[.string X, .int .i64 c]) ∧ Below W.heap.size W w') :
    Calls Tryz.prog 102 #[.int .i64 18, .string s, .string t] w (RPost w (3) (0) X (0)) := by
  obtain ⟨W0, hW0⟩ : ∃ W0, W0 = w.alloc (.cells #[.int .i64 0, .bool false, .int .i64 0, .string ⟨#[]⟩, .string ⟨#[]⟩, .slice none 0 0] 28) := ⟨_, rfl⟩
  have S : Six W0 w.heap.size 0 false 0 ⟨#[]⟩ ⟨#[]⟩ none 0 0 := by rw [hW0]; exact six_new _ rfl
  have b0 : Below w.heap.size w W0 := by rw [hW0]; exact below1 _ _
  subst hk
  have H0 := Lib.hid hW0
  clear hW0
  go_enter Tryz.func102, Tryz.ntmps102
  go_wp2_with (first
    | (go_at_call 139; (try rw [← H0.out]); (with_reducible refine (hc _ b0).mono ?_); rintro e w' ⟨rfl, hb⟩; replace S := S.below hb; replace b0 := below_any b0 hb b0.size; clear hb)
    | ((try rw [← H0.out]); (with_reducible refine wpList_store6 (k' := 3) (b' := false) (n' := 0) (t' := X) (x' := ⟨#[]⟩) (p' := none) (len' := 0) (cap' := 0) (.tmp 6) (.tmp 48) w.heap.size S ?_ ?_ ?_ ?_ ?_); rfl; rfl; rfl; rfl; intro w9 on9 S9))
  refine bodyPost_ret (results_six_tmp (p := 6) (q := 7) Tryz.results102 _ (.int .i64 (0)) rfl rfl S9) rfl ⟨rfl, below_only b0 on9 (Nat.le_refl _) b0.size⟩

set_option maxRecDepth 20000 in
set_option maxHeartbeats 3200000 in
theorem rdSubNo (s t X : ByteArray) (c : Int) (hk : c ≠ 0) (w : World) (hc : ∀ W, Below w.heap.size w W → Calls Tryz.prog 139 #[.string s, .string t] W fun e w' => e = .returned (.tuple #[.string X, .int .i64 c]) ∧ Below W.heap.size W w') :
    Calls Tryz.prog 102 #[.int .i64 18, .string s, .string t] w (RPost w (0) (0) ⟨#[]⟩ (c)) := by
  obtain ⟨W0, hW0⟩ : ∃ W0, W0 = w.alloc (.cells #[.int .i64 0, .bool false, .int .i64 0, .string ⟨#[]⟩, .string ⟨#[]⟩, .slice none 0 0] 28) := ⟨_, rfl⟩
  have S : Six W0 w.heap.size 0 false 0 ⟨#[]⟩ ⟨#[]⟩ none 0 0 := by rw [hW0]; exact six_new _ rfl
  have b0 : Below w.heap.size w W0 := by rw [hW0]; exact below1 _ _
  have hne : (c != 0) = true := by simpa using hk
  have H0 := Lib.hid hW0
  clear hW0
  go_enter Tryz.func102, Tryz.ntmps102
  go_wp2_with (first
    | (go_at_call 139; (try rw [← H0.out]); (with_reducible refine (hc _ b0).mono ?_); rintro e w' ⟨rfl, hb⟩; replace S := S.below hb; replace b0 := below_any b0 hb b0.size; clear hb)
    | ((try rw [← H0.out]); (with_reducible refine wpList_store6 (k' := 0) (b' := false) (n' := 0) (t' := ⟨#[]⟩) (x' := ⟨#[]⟩) (p' := none) (len' := 0) (cap' := 0) (.tmp 6) (.tmp 45) w.heap.size S ?_ ?_ ?_ ?_ ?_); rfl; rfl; rfl; rfl; intro w9 on9 S9))
  refine bodyPost_ret (results_six_tmp (p := 6) (q := 7) Tryz.results102 _ (.int .i64 (c)) rfl rfl S9) rfl ⟨rfl, below_only b0 on9 (Nat.le_refl _) b0.size⟩

set_option maxRecDepth 20000 in
set_option maxHeartbeats 3200000 in
theorem rdMulYes (s t X : ByteArray) (c : Int) (hk : c = 0) (w : World) (hc : ∀ W, Below w.heap.size w W → Calls Tryz.prog 140 #[.string s, .string t] W fun e w' => e = .returned (.tuple #[.string X, .int .i64 c]) ∧ Below W.heap.size W w') :
    Calls Tryz.prog 102 #[.int .i64 19, .string s, .string t] w (RPost w (3) (0) X (0)) := by
  obtain ⟨W0, hW0⟩ : ∃ W0, W0 = w.alloc (.cells #[.int .i64 0, .bool false, .int .i64 0, .string ⟨#[]⟩, .string ⟨#[]⟩, .slice none 0 0] 28) := ⟨_, rfl⟩
  have S : Six W0 w.heap.size 0 false 0 ⟨#[]⟩ ⟨#[]⟩ none 0 0 := by rw [hW0]; exact six_new _ rfl
  have b0 : Below w.heap.size w W0 := by rw [hW0]; exact below1 _ _
  subst hk
  have H0 := Lib.hid hW0
  clear hW0
  go_enter Tryz.func102, Tryz.ntmps102
  go_wp2_with (first
    | (go_at_call 140; (try rw [← H0.out]); (with_reducible refine (hc _ b0).mono ?_); rintro e w' ⟨rfl, hb⟩; replace S := S.below hb; replace b0 := below_any b0 hb b0.size; clear hb)
    | ((try rw [← H0.out]); (with_reducible refine wpList_store6 (k' := 3) (b' := false) (n' := 0) (t' := X) (x' := ⟨#[]⟩) (p' := none) (len' := 0) (cap' := 0) (.tmp 6) (.tmp 48) w.heap.size S ?_ ?_ ?_ ?_ ?_); rfl; rfl; rfl; rfl; intro w9 on9 S9))
  refine bodyPost_ret (results_six_tmp (p := 6) (q := 7) Tryz.results102 _ (.int .i64 (0)) rfl rfl S9) rfl ⟨rfl, below_only b0 on9 (Nat.le_refl _) b0.size⟩

set_option maxRecDepth 20000 in
set_option maxHeartbeats 3200000 in
theorem rdMulNo (s t X : ByteArray) (c : Int) (hk : c ≠ 0) (w : World) (hc : ∀ W, Below w.heap.size w W → Calls Tryz.prog 140 #[.string s, .string t] W fun e w' => e = .returned (.tuple #[.string X, .int .i64 c]) ∧ Below W.heap.size W w') :
    Calls Tryz.prog 102 #[.int .i64 19, .string s, .string t] w (RPost w (0) (0) ⟨#[]⟩ (c)) := by
  obtain ⟨W0, hW0⟩ : ∃ W0, W0 = w.alloc (.cells #[.int .i64 0, .bool false, .int .i64 0, .string ⟨#[]⟩, .string ⟨#[]⟩, .slice none 0 0] 28) := ⟨_, rfl⟩
  have S : Six W0 w.heap.size 0 false 0 ⟨#[]⟩ ⟨#[]⟩ none 0 0 := by rw [hW0]; exact six_new _ rfl
  have b0 : Below w.heap.size w W0 := by rw [hW0]; exact below1 _ _
  have hne : (c != 0) = true := by simpa using hk
  have H0 := Lib.hid hW0
  clear hW0
  go_enter Tryz.func102, Tryz.ntmps102
  go_wp2_with (first
    | (go_at_call 140; (try rw [← H0.out]); (with_reducible refine (hc _ b0).mono ?_); rintro e w' ⟨rfl, hb⟩; replace S := S.below hb; replace b0 := below_any b0 hb b0.size; clear hb)
    | ((try rw [← H0.out]); (with_reducible refine wpList_store6 (k' := 0) (b' := false) (n' := 0) (t' := ⟨#[]⟩) (x' := ⟨#[]⟩) (p' := none) (len' := 0) (cap' := 0) (.tmp 6) (.tmp 45) w.heap.size S ?_ ?_ ?_ ?_ ?_); rfl; rfl; rfl; rfl; intro w9 on9 S9))
  refine bodyPost_ret (results_six_tmp (p := 6) (q := 7) Tryz.results102 _ (.int .i64 (c)) rfl rfl S9) rfl ⟨rfl, below_only b0 on9 (Nat.le_refl _) b0.size⟩

set_option maxRecDepth 20000 in
set_option maxHeartbeats 3200000 in
theorem rdDivYes (s t X : ByteArray) (c : Int) (hk : c = 0) (w : World) (hc : ∀ W, Below w.heap.size w W → Calls Tryz.prog 141 #[.string s, .string t] W fun e w' => e = .returned (.tuple #[.string X, .int .i64 c]) ∧ Below W.heap.size W w') :
    Calls Tryz.prog 102 #[.int .i64 20, .string s, .string t] w (RPost w (3) (0) X (0)) := by
  obtain ⟨W0, hW0⟩ : ∃ W0, W0 = w.alloc (.cells #[.int .i64 0, .bool false, .int .i64 0, .string ⟨#[]⟩, .string ⟨#[]⟩, .slice none 0 0] 28) := ⟨_, rfl⟩
  have S : Six W0 w.heap.size 0 false 0 ⟨#[]⟩ ⟨#[]⟩ none 0 0 := by rw [hW0]; exact six_new _ rfl
  have b0 : Below w.heap.size w W0 := by rw [hW0]; exact below1 _ _
  subst hk
  have H0 := Lib.hid hW0
  clear hW0
  go_enter Tryz.func102, Tryz.ntmps102
  go_wp2_with (first
    | (go_at_call 141; (try rw [← H0.out]); (with_reducible refine (hc _ b0).mono ?_); rintro e w' ⟨rfl, hb⟩; replace S := S.below hb; replace b0 := below_any b0 hb b0.size; clear hb)
    | ((try rw [← H0.out]); (with_reducible refine wpList_store6 (k' := 3) (b' := false) (n' := 0) (t' := X) (x' := ⟨#[]⟩) (p' := none) (len' := 0) (cap' := 0) (.tmp 6) (.tmp 48) w.heap.size S ?_ ?_ ?_ ?_ ?_); rfl; rfl; rfl; rfl; intro w9 on9 S9))
  refine bodyPost_ret (results_six_tmp (p := 6) (q := 7) Tryz.results102 _ (.int .i64 (0)) rfl rfl S9) rfl ⟨rfl, below_only b0 on9 (Nat.le_refl _) b0.size⟩

set_option maxRecDepth 20000 in
set_option maxHeartbeats 3200000 in
theorem rdDivNo (s t X : ByteArray) (c : Int) (hk : c ≠ 0) (w : World) (hc : ∀ W, Below w.heap.size w W → Calls Tryz.prog 141 #[.string s, .string t] W fun e w' => e = .returned (.tuple #[.string X, .int .i64 c]) ∧ Below W.heap.size W w') :
    Calls Tryz.prog 102 #[.int .i64 20, .string s, .string t] w (RPost w (0) (0) ⟨#[]⟩ (c)) := by
  obtain ⟨W0, hW0⟩ : ∃ W0, W0 = w.alloc (.cells #[.int .i64 0, .bool false, .int .i64 0, .string ⟨#[]⟩, .string ⟨#[]⟩, .slice none 0 0] 28) := ⟨_, rfl⟩
  have S : Six W0 w.heap.size 0 false 0 ⟨#[]⟩ ⟨#[]⟩ none 0 0 := by rw [hW0]; exact six_new _ rfl
  have b0 : Below w.heap.size w W0 := by rw [hW0]; exact below1 _ _
  have hne : (c != 0) = true := by simpa using hk
  have H0 := Lib.hid hW0
  clear hW0
  go_enter Tryz.func102, Tryz.ntmps102
  go_wp2_with (first
    | (go_at_call 141; (try rw [← H0.out]); (with_reducible refine (hc _ b0).mono ?_); rintro e w' ⟨rfl, hb⟩; replace S := S.below hb; replace b0 := below_any b0 hb b0.size; clear hb)
    | ((try rw [← H0.out]); (with_reducible refine wpList_store6 (k' := 0) (b' := false) (n' := 0) (t' := ⟨#[]⟩) (x' := ⟨#[]⟩) (p' := none) (len' := 0) (cap' := 0) (.tmp 6) (.tmp 45) w.heap.size S ?_ ?_ ?_ ?_ ?_); rfl; rfl; rfl; rfl; intro w9 on9 S9))
  refine bodyPost_ret (results_six_tmp (p := 6) (q := 7) Tryz.results102 _ (.int .i64 (c)) rfl rfl S9) rfl ⟨rfl, below_only b0 on9 (Nat.le_refl _) b0.size⟩

set_option maxRecDepth 20000 in
set_option maxHeartbeats 3200000 in
theorem rdMod (s t : ByteArray) (w : World) :
    Calls Tryz.prog 102 #[.int .i64 21, .string s, .string t] w (RPost w (0) (0) ⟨#[]⟩ (4)) := by
  obtain ⟨W0, hW0⟩ : ∃ W0, W0 = w.alloc (.cells #[.int .i64 0, .bool false, .int .i64 0, .string ⟨#[]⟩, .string ⟨#[]⟩, .slice none 0 0] 28) := ⟨_, rfl⟩
  have S : Six W0 w.heap.size 0 false 0 ⟨#[]⟩ ⟨#[]⟩ none 0 0 := by rw [hW0]; exact six_new _ rfl
  have b0 : Below w.heap.size w W0 := by rw [hW0]; exact below1 _ _
  have H0 := Lib.hid hW0
  clear hW0
  go_enter Tryz.func102, Tryz.ntmps102
  go_wp2_with (first
    | ((try rw [← H0.out]); (with_reducible refine wpList_store6 (k' := 0) (b' := false) (n' := 0) (t' := ⟨#[]⟩) (x' := ⟨#[]⟩) (p' := none) (len' := 0) (cap' := 0) (.tmp 6) (.tmp 45) w.heap.size S ?_ ?_ ?_ ?_ ?_); rfl; rfl; rfl; rfl; intro w9 on9 S9))
  refine bodyPost_ret (results_six_tmp (p := 6) (q := 7) Tryz.results102 _ (.int .i64 (4)) rfl rfl S9) rfl ⟨rfl, below_only b0 on9 (Nat.le_refl _) b0.size⟩

set_option maxRecDepth 20000 in
set_option maxHeartbeats 3200000 in
theorem wholeYes (X : ByteArray) (w : World) :
    Calls Tryz.prog 62 #[.string X, .int .i64 0] w (RPost w (3) (0) X (0)) := by
  obtain ⟨W0, hW0⟩ : ∃ W0, W0 = w.alloc (.cells #[.int .i64 0, .bool false, .int .i64 0, .string ⟨#[]⟩, .string ⟨#[]⟩, .slice none 0 0] 28) := ⟨_, rfl⟩
  have S : Six W0 w.heap.size 0 false 0 ⟨#[]⟩ ⟨#[]⟩ none 0 0 := by rw [hW0]; exact six_new _ rfl
  have b0 : Below w.heap.size w W0 := by rw [hW0]; exact below1 _ _
  have H0 := Lib.hid hW0
  clear hW0
  go_enter Tryz.func62, Tryz.ntmps62
  go_wp2_with (first
    | ((try rw [← H0.out]); (with_reducible refine wpList_store6 (k' := 3) (b' := false) (n' := 0) (t' := X) (x' := ⟨#[]⟩) (p' := none) (len' := 0) (cap' := 0) (.tmp 4) (.tmp 11) w.heap.size S ?_ ?_ ?_ ?_ ?_); rfl; rfl; rfl; rfl; intro w9 on9 S9))
  refine bodyPost_ret (results_six_tmp (p := 4) (q := 5) Tryz.results62 _ (.int .i64 (0)) rfl rfl S9) rfl ⟨rfl, below_only b0 on9 (Nat.le_refl _) b0.size⟩

set_option maxRecDepth 20000 in
set_option maxHeartbeats 3200000 in
theorem wholeNo (X : ByteArray) (c : Int) (hk : c ≠ 0) (w : World) :
    Calls Tryz.prog 62 #[.string X, .int .i64 c] w (RPost w (0) (0) ⟨#[]⟩ (c)) := by
  obtain ⟨W0, hW0⟩ : ∃ W0, W0 = w.alloc (.cells #[.int .i64 0, .bool false, .int .i64 0, .string ⟨#[]⟩, .string ⟨#[]⟩, .slice none 0 0] 28) := ⟨_, rfl⟩
  have S : Six W0 w.heap.size 0 false 0 ⟨#[]⟩ ⟨#[]⟩ none 0 0 := by rw [hW0]; exact six_new _ rfl
  have b0 : Below w.heap.size w W0 := by rw [hW0]; exact below1 _ _
  have hne : (c != 0) = true := by simpa using hk
  have H0 := Lib.hid hW0
  clear hW0
  go_enter Tryz.func62, Tryz.ntmps62
  go_wp2_with (first
    | ((try rw [← H0.out]); (with_reducible refine wpList_store6 (k' := 0) (b' := false) (n' := 0) (t' := ⟨#[]⟩) (x' := ⟨#[]⟩) (p' := none) (len' := 0) (cap' := 0) (.tmp 4) (.tmp 8) w.heap.size S ?_ ?_ ?_ ?_ ?_); rfl; rfl; rfl; rfl; intro w9 on9 S9))
  refine bodyPost_ret (results_six_tmp (p := 4) (q := 5) Tryz.results62 _ (.int .i64 (c)) rfl rfl S9) rfl ⟨rfl, below_only b0 on9 (Nat.le_refl _) b0.size⟩
end Go.Proofs.YtoifjjgakblhhaaGreatDoor
