/- reckon, Add, Sub. -/
import Derived.Test.YtabgilmehehbjaaDoorB5m
namespace Go.Proofs.YtabgilmehehbjaaDoor
open Go.RowKit

theorem textNum (c : Array Value) (n : Bool) (f : Nat → Nat) (z : Int) (w : World) (hc : IsNum c n f) (hz : sv n (wval f) = z) (t : ByteArray) (k : Int) (hv : said (txt z) = .tuple #[.string t, .int .i64 k]) :
    Calls Tryd.prog 57 #[.agg c] w fun e w' => e = .returned (.tuple #[.string t, .int .i64 k]) ∧ Below w.heap.size w w' := by
  have := textAt c n f w hc
  rwa [wrN_sv, hz, hv] at this

theorem damt_sum {s t : List UInt8} (h : chk s = true) (h2 : chk t = true) : damt s + damt t < BASE ^ 16 := by
  have a := (chk_dec s h).2.1
  have b := (chk_dec t h2).2.1
  have e : BASE ^ 16 = 10 ^ 144 := base_pow 16
  rw [e]
  have : (10 : Nat) ^ 94 + 10 ^ 94 ≤ 10 ^ 144 := by decide
  omega

set_option maxRecDepth 20000 in
set_option maxHeartbeats 1600000 in
theorem reckonBad (F : Value) (s t : ByteArray) (w : World) (hG : Gd w) (hs : s.size < 4294967281) (ht : t.size < 4294967281) (h : chk s.data.toList = false ∨ chk t.data.toList = false) :
    Calls Tryd.prog 47 #[.string s, .string t, F] w fun e w' => e = .returned (.tuple #[.string ⟨#[]⟩, .int .i64 1]) ∧ Below w.heap.size w w' := by
  have hc : ∀ W, Gd W → Calls Tryd.prog 42 #[.string s, .string t] W fun e w' => e = .returned (.tuple #[.agg zero59, .agg zero59, .bool false]) ∧ Below W.heap.size W w' := fun W hW => by
    by_cases h1 : chk s.data.toList = true
    · exact bothNo2 s t W hW hs ht h1 (by rcases h with h | h; rw [h] at h1; cases h1; exact h)
    · exact bothNo1 s t W hW hs (by simpa using h1)
  have HC := Lib.hid hc
  clear hc h hs ht
  go_enter Tryd.func47, Tryd.ntmps47
  go_wp2_with (first
    | (go_at_call 42; (with_reducible refine (HC.out _ hG).mono ?_); rintro e w1 ⟨rfl, hb⟩; have l1 : Lies ((w1.alloc (.cells #[.bool false, .int .u32 0, .int .u32 0, .int .u32 0, .int .u32 0, .int .u32 0, .int .u32 0, .int .u32 0, .int .u32 0, .int .u32 0, .int .u32 0, .int .u32 0, .int .u32 0, .int .u32 0, .int .u32 0, .int .u32 0, .int .u32 0] 59)).alloc (.cells #[.bool false, .int .u32 0, .int .u32 0, .int .u32 0, .int .u32 0, .int .u32 0, .int .u32 0, .int .u32 0, .int .u32 0, .int .u32 0, .int .u32 0, .int .u32 0, .int .u32 0, .int .u32 0, .int .u32 0, .int .u32 0, .int .u32 0] 59)) w1.heap.size zero59 false (fun _ => 0) := (lies_zero _ rfl).alloc _; have l2 : Lies ((w1.alloc (.cells #[.bool false, .int .u32 0, .int .u32 0, .int .u32 0, .int .u32 0, .int .u32 0, .int .u32 0, .int .u32 0, .int .u32 0, .int .u32 0, .int .u32 0, .int .u32 0, .int .u32 0, .int .u32 0, .int .u32 0, .int .u32 0, .int .u32 0] 59)).alloc (.cells #[.bool false, .int .u32 0, .int .u32 0, .int .u32 0, .int .u32 0, .int .u32 0, .int .u32 0, .int .u32 0, .int .u32 0, .int .u32 0, .int .u32 0, .int .u32 0, .int .u32 0, .int .u32 0, .int .u32 0, .int .u32 0, .int .u32 0] 59)) (w1.heap.size + 1) zero59 false (fun _ => 0) := lies_zero _ (by simp); have hb1 : Below w.heap.size w ((w1.alloc (.cells #[.bool false, .int .u32 0, .int .u32 0, .int .u32 0, .int .u32 0, .int .u32 0, .int .u32 0, .int .u32 0, .int .u32 0, .int .u32 0, .int .u32 0, .int .u32 0, .int .u32 0, .int .u32 0, .int .u32 0, .int .u32 0, .int .u32 0] 59)).alloc (.cells #[.bool false, .int .u32 0, .int .u32 0, .int .u32 0, .int .u32 0, .int .u32 0, .int .u32 0, .int .u32 0, .int .u32 0, .int .u32 0, .int .u32 0, .int .u32 0, .int .u32 0, .int .u32 0, .int .u32 0, .int .u32 0, .int .u32 0] 59)) := (hb.alloc hb.size _).alloc (by have := hb.size; simp; omega) _; have hsz := hb.size)
    | ((with_reducible refine wpList_storeN (.tmp 8) (.tmp 15) w1.heap.size (by assumption) isNum_zero ?_ ?_ ?_ ?_ ?_); rfl; rfl; rfl; rfl; intro w2 ho p1; have p2 := l2.only ho (by omega); have hb2 := below_only hb1 ho hsz (Nat.le_of_lt (Nat.lt_of_le_of_lt hsz l1.lt)))
    | ((with_reducible refine wpList_storeN (.tmp 9) (.tmp 16) (w1.heap.size + 1) (by assumption) isNum_zero ?_ ?_ ?_ ?_ ?_); rfl; rfl; rfl; rfl; intro w3 ho3 q2; have q1 := p1.only ho3 (by omega); have hb3 := below_only hb2 ho3 (by omega) (Nat.le_of_lt (Nat.lt_of_le_of_lt hsz p1.lt))))
  go_ret2
  exact ⟨rfl, hb3⟩

set_option maxRecDepth 20000 in
set_option maxHeartbeats 1600000 in
theorem reckonPlus (s t : ByteArray) (w : World) (hG : Gd w) (hs : s.size < 4294967281) (ht : t.size < 4294967281) (h : chk s.data.toList = true) (h2 : chk t.data.toList = true) (x : ByteArray) (k : Int)
    (hv : said (txt (dval s.data.toList + dval t.data.toList)) = .tuple #[.string x, .int .i64 k]) :
    Calls Tryd.prog 47 #[.string s, .string t, .func (Fn.func 48) #[] #[]] w fun e w' => e = .returned (.tuple #[.string x, .int .i64 k]) ∧ Below w.heap.size w w' := by
  have hc : ∀ W, Gd W → Calls Tryd.prog 42 #[.string s, .string t] W fun e w' => ∃ c d f g, e = .returned (.tuple #[.agg c, .agg d, .bool true]) ∧ IsNum c (dsign s.data.toList) f ∧ wval f = damt s.data.toList ∧
      IsNum d (dsign t.data.toList) g ∧ wval g = damt t.data.toList ∧ Below W.heap.size W w' := fun W hW => bothYes s t W hW hs ht h h2
  have HC := Lib.hid hc
  have hop : ∀ (c d : Array Value) (f g : Nat → Nat) W, IsNum c (dsign s.data.toList) f → wval f = damt s.data.toList → IsNum d (dsign t.data.toList) g → wval g = damt t.data.toList →
      Calls Tryd.prog 48 #[.agg c, .agg d] W fun e w' => ∃ c' r h, e = .returned (.agg c') ∧ IsNum c' r h ∧ Aside (sv r (wval h) = dval s.data.toList + dval t.data.toList) ∧ Below W.heap.size W w' := by
    intro c d f g W h1 e1 h3 e2
    refine (plusNum c d _ _ f g W h1 h3 (by rw [e1, e2]; exact damt_sum h h2)).mono ?_
    rintro e w' ⟨c', r, k, rfl, hr, hsv, hb⟩
    exact ⟨c', r, k, rfl, hr, by unfold Aside; rw [hsv, e1, e2]; rfl, hb⟩
  have HOP := Lib.hid hop
  have HV := Lib.hid hv
  clear hc hop hv h h2 hs ht
  go_enter Tryd.func47, Tryd.ntmps47
  go_wp2_with (first
    | (go_at_call 42; (with_reducible refine (HC.out _ hG).mono ?_); rintro e w1 ⟨c, d, f, g, rfl, hn, hx, hm, hy, hb⟩; have HX := Lib.hid hx; have HY := Lib.hid hy; clear hx hy; have l1 : Lies ((w1.alloc (.cells #[.bool false, .int .u32 0, .int .u32 0, .int .u32 0, .int .u32 0, .int .u32 0, .int .u32 0, .int .u32 0, .int .u32 0, .int .u32 0, .int .u32 0, .int .u32 0, .int .u32 0, .int .u32 0, .int .u32 0, .int .u32 0, .int .u32 0] 59)).alloc (.cells #[.bool false, .int .u32 0, .int .u32 0, .int .u32 0, .int .u32 0, .int .u32 0, .int .u32 0, .int .u32 0, .int .u32 0, .int .u32 0, .int .u32 0, .int .u32 0, .int .u32 0, .int .u32 0, .int .u32 0, .int .u32 0, .int .u32 0] 59)) w1.heap.size zero59 false (fun _ => 0) := (lies_zero _ rfl).alloc _; have l2 : Lies ((w1.alloc (.cells #[.bool false, .int .u32 0, .int .u32 0, .int .u32 0, .int .u32 0, .int .u32 0, .int .u32 0, .int .u32 0, .int .u32 0, .int .u32 0, .int .u32 0, .int .u32 0, .int .u32 0, .int .u32 0, .int .u32 0, .int .u32 0, .int .u32 0] 59)).alloc (.cells #[.bool false, .int .u32 0, .int .u32 0, .int .u32 0, .int .u32 0, .int .u32 0, .int .u32 0, .int .u32 0, .int .u32 0, .int .u32 0, .int .u32 0, .int .u32 0, .int .u32 0, .int .u32 0, .int .u32 0, .int .u32 0, .int .u32 0] 59)) (w1.heap.size + 1) zero59 false (fun _ => 0) := lies_zero _ (by simp); have hb1 : Below w.heap.size w ((w1.alloc (.cells #[.bool false, .int .u32 0, .int .u32 0, .int .u32 0, .int .u32 0, .int .u32 0, .int .u32 0, .int .u32 0, .int .u32 0, .int .u32 0, .int .u32 0, .int .u32 0, .int .u32 0, .int .u32 0, .int .u32 0, .int .u32 0, .int .u32 0] 59)).alloc (.cells #[.bool false, .int .u32 0, .int .u32 0, .int .u32 0, .int .u32 0, .int .u32 0, .int .u32 0, .int .u32 0, .int .u32 0, .int .u32 0, .int .u32 0, .int .u32 0, .int .u32 0, .int .u32 0, .int .u32 0, .int .u32 0, .int .u32 0] 59)) := (hb.alloc hb.size _).alloc (by have := hb.size; simp; omega) _; have hsz := hb.size)
    | ((with_reducible refine wpList_storeN (.tmp 8) (.tmp 15) w1.heap.size (by assumption) hn ?_ ?_ ?_ ?_ ?_); rfl; rfl; rfl; rfl; intro w2 ho p1; have p2 := l2.only ho (by omega); have hb2 := below_only hb1 ho hsz (Nat.le_of_lt (Nat.lt_of_le_of_lt hsz l1.lt)))
    | ((with_reducible refine wpList_storeN (.tmp 9) (.tmp 16) (w1.heap.size + 1) (by assumption) hm ?_ ?_ ?_ ?_ ?_); rfl; rfl; rfl; rfl; intro w3 ho3 q2; have q1 := p1.only ho3 (by omega); have hb3 := below_only hb2 ho3 (by omega) (Nat.le_of_lt (Nat.lt_of_le_of_lt hsz p1.lt)))
    | ((with_reducible refine wpList_loadN (.tmp 8) w1.heap.size (by assumption) ?_ ?_ ?_ ?_); rfl; rfl; rfl)
    | ((with_reducible refine wpList_loadN (.tmp 9) (w1.heap.size + 1) (by assumption) ?_ ?_ ?_ ?_); rfl; rfl; rfl)
    | (go_at_call 48; (with_reducible refine (HOP.out c d f g _ hn HX.out hm HY.out).mono ?_); rintro e w4 ⟨c', r, h, rfl, hr, hsv, hb4⟩; have hb5 := below_any hb3 hb4 (Nat.le_of_lt (Nat.lt_of_le_of_lt hsz q1.lt)))
    | (go_at_call 57; (with_reducible refine (textNum c' r h _ _ hr hsv.out x k HV.out).mono ?_); rintro e w5 ⟨rfl, hb6⟩; have hb7 := below_any hb5 hb6 hb5.size))
  go_ret2
  exact ⟨rfl, hb7⟩

set_option maxRecDepth 20000 in
set_option maxHeartbeats 1600000 in
theorem reckonMinus (s t : ByteArray) (w : World) (hG : Gd w) (hs : s.size < 4294967281) (ht : t.size < 4294967281) (h : chk s.data.toList = true) (h2 : chk t.data.toList = true) (x : ByteArray) (k : Int)
    (hv : said (txt (dval s.data.toList - dval t.data.toList)) = .tuple #[.string x, .int .i64 k]) :
    Calls Tryd.prog 47 #[.string s, .string t, .func (Fn.func 49) #[] #[]] w fun e w' => e = .returned (.tuple #[.string x, .int .i64 k]) ∧ Below w.heap.size w w' := by
  have hc : ∀ W, Gd W → Calls Tryd.prog 42 #[.string s, .string t] W fun e w' => ∃ c d f g, e = .returned (.tuple #[.agg c, .agg d, .bool true]) ∧ IsNum c (dsign s.data.toList) f ∧ wval f = damt s.data.toList ∧
      IsNum d (dsign t.data.toList) g ∧ wval g = damt t.data.toList ∧ Below W.heap.size W w' := fun W hW => bothYes s t W hW hs ht h h2
  have HC := Lib.hid hc
  have hop : ∀ (c d : Array Value) (f g : Nat → Nat) W, IsNum c (dsign s.data.toList) f → wval f = damt s.data.toList → IsNum d (dsign t.data.toList) g → wval g = damt t.data.toList →
      Calls Tryd.prog 49 #[.agg c, .agg d] W fun e w' => ∃ c' r h, e = .returned (.agg c') ∧ IsNum c' r h ∧ Aside (sv r (wval h) = dval s.data.toList - dval t.data.toList) ∧ Below W.heap.size W w' := by
    intro c d f g W h1 e1 h3 e2
    refine (minusNum c d _ _ f g W h1 h3 (by rw [e1, e2]; exact damt_sum h h2)).mono ?_
    rintro e w' ⟨c', r, k, rfl, hr, hsv, hb⟩
    refine ⟨c', r, k, rfl, hr, ?_, hb⟩
    unfold Aside
    rw [hsv, e1, e2]
    unfold dval sv
    cases dsign s.data.toList <;> cases dsign t.data.toList <;> simp <;> omega
  have HOP := Lib.hid hop
  have HV := Lib.hid hv
  clear hc hop hv h h2 hs ht
  go_enter Tryd.func47, Tryd.ntmps47
  go_wp2_with (first
    | (go_at_call 42; (with_reducible refine (HC.out _ hG).mono ?_); rintro e w1 ⟨c, d, f, g, rfl, hn, hx, hm, hy, hb⟩; have HX := Lib.hid hx; have HY := Lib.hid hy; clear hx hy; have l1 : Lies ((w1.alloc (.cells #[.bool false, .int .u32 0, .int .u32 0, .int .u32 0, .int .u32 0, .int .u32 0, .int .u32 0, .int .u32 0, .int .u32 0, .int .u32 0, .int .u32 0, .int .u32 0, .int .u32 0, .int .u32 0, .int .u32 0, .int .u32 0, .int .u32 0] 59)).alloc (.cells #[.bool false, .int .u32 0, .int .u32 0, .int .u32 0, .int .u32 0, .int .u32 0, .int .u32 0, .int .u32 0, .int .u32 0, .int .u32 0, .int .u32 0, .int .u32 0, .int .u32 0, .int .u32 0, .int .u32 0, .int .u32 0, .int .u32 0] 59)) w1.heap.size zero59 false (fun _ => 0) := (lies_zero _ rfl).alloc _; have l2 : Lies ((w1.alloc (.cells #[.bool false, .int .u32 0, .int .u32 0, .int .u32 0, .int .u32 0, .int .u32 0, .int .u32 0, .int .u32 0, .int .u32 0, .int .u32 0, .int .u32 0, .int .u32 0, .int .u32 0, .int .u32 0, .int .u32 0, .int .u32 0, .int .u32 0] 59)).alloc (.cells #[.bool false, .int .u32 0, .int .u32 0, .int .u32 0, .int .u32 0, .int .u32 0, .int .u32 0, .int .u32 0, .int .u32 0, .int .u32 0, .int .u32 0, .int .u32 0, .int .u32 0, .int .u32 0, .int .u32 0, .int .u32 0, .int .u32 0] 59)) (w1.heap.size + 1) zero59 false (fun _ => 0) := lies_zero _ (by simp); have hb1 : Below w.heap.size w ((w1.alloc (.cells #[.bool false, .int .u32 0, .int .u32 0, .int .u32 0, .int .u32 0, .int .u32 0, .int .u32 0, .int .u32 0, .int .u32 0, .int .u32 0, .int .u32 0, .int .u32 0, .int .u32 0, .int .u32 0, .int .u32 0, .int .u32 0, .int .u32 0] 59)).alloc (.cells #[.bool false, .int .u32 0, .int .u32 0, .int .u32 0, .int .u32 0, .int .u32 0, .int .u32 0, .int .u32 0, .int .u32 0, .int .u32 0, .int .u32 0, .int .u32 0, .int .u32 0, .int .u32 0, .int .u32 0, .int .u32 0, .int .u32 0] 59)) := (hb.alloc hb.size _).alloc (by have := hb.size; simp; omega) _; have hsz := hb.size)
    | ((with_reducible refine wpList_storeN (.tmp 8) (.tmp 15) w1.heap.size (by assumption) hn ?_ ?_ ?_ ?_ ?_); rfl; rfl; rfl; rfl; intro w2 ho p1; have p2 := l2.only ho (by omega); have hb2 := below_only hb1 ho hsz (Nat.le_of_lt (Nat.lt_of_le_of_lt hsz l1.lt)))
    | ((with_reducible refine wpList_storeN (.tmp 9) (.tmp 16) (w1.heap.size + 1) (by assumption) hm ?_ ?_ ?_ ?_ ?_); rfl; rfl; rfl; rfl; intro w3 ho3 q2; have q1 := p1.only ho3 (by omega); have hb3 := below_only hb2 ho3 (by omega) (Nat.le_of_lt (Nat.lt_of_le_of_lt hsz p1.lt)))
    | ((with_reducible refine wpList_loadN (.tmp 8) w1.heap.size (by assumption) ?_ ?_ ?_ ?_); rfl; rfl; rfl)
    | ((with_reducible refine wpList_loadN (.tmp 9) (w1.heap.size + 1) (by assumption) ?_ ?_ ?_ ?_); rfl; rfl; rfl)
    | (go_at_call 49; (with_reducible refine (HOP.out c d f g _ hn HX.out hm HY.out).mono ?_); rintro e w4 ⟨c', r, h, rfl, hr, hsv, hb4⟩; have hb5 := below_any hb3 hb4 (Nat.le_of_lt (Nat.lt_of_le_of_lt hsz q1.lt)))
    | (go_at_call 57; (with_reducible refine (textNum c' r h _ _ hr hsv.out x k HV.out).mono ?_); rintro e w5 ⟨rfl, hb6⟩; have hb7 := below_any hb5 hb6 hb5.size))
  go_ret2
  exact ⟨rfl, hb7⟩

set_option maxHeartbeats 800000 in
theorem addYes (s t : ByteArray) (w : World) (hG : Gd w) (hs : s.size < 4294967281) (ht : t.size < 4294967281) (h : chk s.data.toList = true) (h2 : chk t.data.toList = true) (x : ByteArray) (k : Int)
    (hv : said (txt (dval s.data.toList + dval t.data.toList)) = .tuple #[.string x, .int .i64 k]) :
    Calls Tryd.prog 22 #[.string s, .string t] w fun e w' => e = .returned (.tuple #[.string x, .int .i64 k]) ∧ Below w.heap.size w w' := by
  have hc : ∀ W, Gd W → Calls Tryd.prog 47 #[.string s, .string t, .func (Fn.func 48) #[] #[]] W fun e w' => e = .returned (.tuple #[.string x, .int .i64 k]) ∧ Below W.heap.size W w' := fun W hW => reckonPlus s t W hW hs ht h h2 x k hv
  have HC := Lib.hid hc
  clear hc hv h h2 hs ht
  go_enter Tryd.func22, Tryd.ntmps22
  go_wp2_with (go_at_call 47; (with_reducible refine (HC.out _ hG).mono ?_); rintro e w1 ⟨rfl, hb⟩)
  go_ret2
  exact ⟨rfl, hb⟩
theorem addNo (s t : ByteArray) (w : World) (hG : Gd w) (hs : s.size < 4294967281) (ht : t.size < 4294967281) (h : chk s.data.toList = false ∨ chk t.data.toList = false) :
    Calls Tryd.prog 22 #[.string s, .string t] w fun e w' => e = .returned (.tuple #[.string ⟨#[]⟩, .int .i64 1]) ∧ Below w.heap.size w w' := by
  have hc : ∀ W, Gd W → Calls Tryd.prog 47 #[.string s, .string t, .func (Fn.func 48) #[] #[]] W fun e w' => e = .returned (.tuple #[.string ⟨#[]⟩, .int .i64 1]) ∧ Below W.heap.size W w' := fun W hW => reckonBad _ s t W hW hs ht h
  have HC := Lib.hid hc
  clear hc h hs ht
  go_enter Tryd.func22, Tryd.ntmps22
  go_wp2_with (go_at_call 47; (with_reducible refine (HC.out _ hG).mono ?_); rintro e w1 ⟨rfl, hb⟩)
  go_ret2
  exact ⟨rfl, hb⟩

set_option maxHeartbeats 800000 in
theorem subYes (s t : ByteArray) (w : World) (hG : Gd w) (hs : s.size < 4294967281) (ht : t.size < 4294967281) (h : chk s.data.toList = true) (h2 : chk t.data.toList = true) (x : ByteArray) (k : Int)
    (hv : said (txt (dval s.data.toList - dval t.data.toList)) = .tuple #[.string x, .int .i64 k]) :
    Calls Tryd.prog 24 #[.string s, .string t] w fun e w' => e = .returned (.tuple #[.string x, .int .i64 k]) ∧ Below w.heap.size w w' := by
  have hc : ∀ W, Gd W → Calls Tryd.prog 47 #[.string s, .string t, .func (Fn.func 49) #[] #[]] W fun e w' => e = .returned (.tuple #[.string x, .int .i64 k]) ∧ Below W.heap.size W w' := fun W hW => reckonMinus s t W hW hs ht h h2 x k hv
  have HC := Lib.hid hc
  clear hc hv h h2 hs ht
  go_enter Tryd.func24, Tryd.ntmps24
  go_wp2_with (go_at_call 47; (with_reducible refine (HC.out _ hG).mono ?_); rintro e w1 ⟨rfl, hb⟩)
  go_ret2
  exact ⟨rfl, hb⟩
theorem subNo (s t : ByteArray) (w : World) (hG : Gd w) (hs : s.size < 4294967281) (ht : t.size < 4294967281) (h : chk s.data.toList = false ∨ chk t.data.toList = false) :
    Calls Tryd.prog 24 #[.string s, .string t] w fun e w' => e = .returned (.tuple #[.string ⟨#[]⟩, .int .i64 1]) ∧ Below w.heap.size w w' := by
  have hc : ∀ W, Gd W → Calls Tryd.prog 47 #[.string s, .string t, .func (Fn.func 49) #[] #[]] W fun e w' => e = .returned (.tuple #[.string ⟨#[]⟩, .int .i64 1]) ∧ Below W.heap.size W w' := fun W hW => reckonBad _ s t W hW hs ht h
  have HC := Lib.hid hc
  clear hc h hs ht
  go_enter Tryd.func24, Tryd.ntmps24
  go_wp2_with (go_at_call 47; (with_reducible refine (HC.out _ hG).mono ?_); rintro e w1 ⟨rfl, hb⟩)
  go_ret2
  exact ⟨rfl, hb⟩

end Go.Proofs.YtabgilmehehbjaaDoor
