/- Texts of one kind, one behind the other: each says ahead of itself what it shows. -/
import Derived.Test.YtoifjjgakblhhaaDoorGn
import Derived.Test.YtoifjjgakblhhaaDoorS4m
import Derived.BigQuiet
/- Whether a value may be: the kinds one by one. -/
namespace Go.Proofs.YtoifjjgakblhhaaDoor
open Go.RowKit

set_option maxRecDepth 4000 in
set_option maxHeartbeats 1600000 in
theorem mayNull (b : Bool) (n : Int) (t x : ByteArray) (p : Option Addr) (len cap : Nat) (d : Int) (w : World) :
    Calls Tryd.prog 19 #[.agg #[.int .i64 0, .bool b, .int .i64 n, .string t, .string x, .slice p len cap], .int .i64 d] w fun e w' => e = .returned (.bool (bareP b n t x len)) ∧ Below w.heap.size w w' := by
  have l0 : Six ((w.alloc (.cells #[.int .i64 0, .bool b, .int .i64 n, .string t, .string x, .slice p len cap] 28)).alloc (.cells #[.int .i64 0, .bool b, .int .i64 n, .string t, .string x, .slice p len cap] 28)) w.heap.size 0 b n t x p len cap := (six_new w rfl).alloc _
  have l1 : Six ((w.alloc (.cells #[.int .i64 0, .bool b, .int .i64 n, .string t, .string x, .slice p len cap] 28)).alloc (.cells #[.int .i64 0, .bool b, .int .i64 n, .string t, .string x, .slice p len cap] 28)) (w.heap.size + 1) 0 b n t x p len cap := six_new _ (by simp)
  have b0 := below2 w (.cells #[.int .i64 0, .bool b, .int .i64 n, .string t, .string x, .slice p len cap] 28) (.cells #[.int .i64 0, .bool b, .int .i64 n, .string t, .string x, .slice p len cap] 28)
  have l00 := six_new (k := 0) (b := b) (n := n) (t := t) (x := x) (p := p) (len := len) (cap := cap) w rfl
  go_enter Tryd.func19, Tryd.ntmps19
  go_wp2_with (first
    | ((with_reducible refine wpList_load6 (.tmp 2) w.heap.size (by assumption) ?_ ?_ ?_ ?_); rfl; rfl; rfl)
    | ((with_reducible refine wpList_load6g (.tmp 5) (w.heap.size + 1) (by assumption) ?_ ?_ ?_ ?_); rfl; rfl; rfl)
    | (go_at_call 29; (with_reducible refine (kindOfAt 0 b n t x _ 51 rfl _).mono ?_); rintro e w2 ⟨rfl, hb2⟩; have k2 := l0.below hb2; have m2 := l1.below hb2; have b2 := below_any b0 hb2 (by have := l0.lt; omega); have z2 : w.heap.size ≤ w2.heap.size := by have := k2.lt; omega
       clear l0 l1 l00 hb2 b0
       skip)
    | (simp only [ta51_51, ta51_52, ta51_53, ta51_54, ta51_55, ta51_56, ta51_58, ta51_59, ta51_60, ta51_61, ta51_62, Result.andThen_ok])
    | (go_at_call 34; (with_reducible refine (isBareAt 0 _ _ _ _ _ _ _ _).mono ?_); rintro e w9 ⟨rfl, hb9⟩; have b9 := below_any b2 hb9 z2))
  go_ret
  exact ⟨rfl, b9⟩
set_option maxRecDepth 4000 in
set_option maxHeartbeats 1600000 in
theorem mayTruth (b : Bool) (n : Int) (t x : ByteArray) (p : Option Addr) (len cap : Nat) (d : Int) (w : World) :
    Calls Tryd.prog 19 #[.agg #[.int .i64 1, .bool b, .int .i64 n, .string t, .string x, .slice p len cap], .int .i64 d] w fun e w' => e = .returned (.bool (bareP false n t x len)) ∧ Below w.heap.size w w' := by
  have l0 : Six ((w.alloc (.cells #[.int .i64 1, .bool b, .int .i64 n, .string t, .string x, .slice p len cap] 28)).alloc (.cells #[.int .i64 1, .bool b, .int .i64 n, .string t, .string x, .slice p len cap] 28)) w.heap.size 1 b n t x p len cap := (six_new w rfl).alloc _
  have l1 : Six ((w.alloc (.cells #[.int .i64 1, .bool b, .int .i64 n, .string t, .string x, .slice p len cap] 28)).alloc (.cells #[.int .i64 1, .bool b, .int .i64 n, .string t, .string x, .slice p len cap] 28)) (w.heap.size + 1) 1 b n t x p len cap := six_new _ (by simp)
  have b0 := below2 w (.cells #[.int .i64 1, .bool b, .int .i64 n, .string t, .string x, .slice p len cap] 28) (.cells #[.int .i64 1, .bool b, .int .i64 n, .string t, .string x, .slice p len cap] 28)
  have l00 := six_new (k := 1) (b := b) (n := n) (t := t) (x := x) (p := p) (len := len) (cap := cap) w rfl
  go_enter Tryd.func19, Tryd.ntmps19
  go_wp2_with (first
    | ((with_reducible refine wpList_load6 (.tmp 2) w.heap.size (by assumption) ?_ ?_ ?_ ?_); rfl; rfl; rfl)
    | ((with_reducible refine wpList_load6g (.tmp 5) (w.heap.size + 1) (by assumption) ?_ ?_ ?_ ?_); rfl; rfl; rfl)
    | (go_at_call 29; (with_reducible refine (kindOfAt 1 b n t x _ 52 rfl _).mono ?_); rintro e w2 ⟨rfl, hb2⟩; have k2 := l0.below hb2; have m2 := l1.below hb2; have b2 := below_any b0 hb2 (by have := l0.lt; omega); have z2 : w.heap.size ≤ w2.heap.size := by have := k2.lt; omega
       clear l0 l1 l00 hb2 b0
       have c1 := m2.c1; have f1 := m2.free 1; have m3 := m2.set1 false; have b3 := below_set (o := 1) b2 none (.bool false) (show w.heap.size ≤ w.heap.size + 1 by omega) z2; have z3 : w.heap.size ≤ (w2.setCell ⟨w.heap.size + 1, 1, none⟩ (.bool false)).heap.size := by simpa [World.setCell] using z2)
    | (simp only [ta52_51, ta52_52, ta52_53, ta52_54, ta52_55, ta52_56, ta52_58, ta52_59, ta52_60, ta52_61, ta52_62, Result.andThen_ok])
    | (go_at_call 34; (with_reducible refine (isBareAt 1 _ _ _ _ _ _ _ _).mono ?_); rintro e w9 ⟨rfl, hb9⟩; have b9 := below_any b3 hb9 z3))
  go_ret
  exact ⟨rfl, b9⟩
set_option maxRecDepth 4000 in
set_option maxHeartbeats 1600000 in
theorem mayWhole (b : Bool) (n : Int) (t x : ByteArray) (p : Option Addr) (len cap : Nat) (d : Int) (w : World) :
    Calls Tryd.prog 19 #[.agg #[.int .i64 2, .bool b, .int .i64 n, .string t, .string x, .slice p len cap], .int .i64 d] w fun e w' => e = .returned (.bool (bareP b 0 t x len)) ∧ Below w.heap.size w w' := by
  have l0 : Six ((w.alloc (.cells #[.int .i64 2, .bool b, .int .i64 n, .string t, .string x, .slice p len cap] 28)).alloc (.cells #[.int .i64 2, .bool b, .int .i64 n, .string t, .string x, .slice p len cap] 28)) w.heap.size 2 b n t x p len cap := (six_new w rfl).alloc _
  have l1 : Six ((w.alloc (.cells #[.int .i64 2, .bool b, .int .i64 n, .string t, .string x, .slice p len cap] 28)).alloc (.cells #[.int .i64 2, .bool b, .int .i64 n, .string t, .string x, .slice p len cap] 28)) (w.heap.size + 1) 2 b n t x p len cap := six_new _ (by simp)
  have b0 := below2 w (.cells #[.int .i64 2, .bool b, .int .i64 n, .string t, .string x, .slice p len cap] 28) (.cells #[.int .i64 2, .bool b, .int .i64 n, .string t, .string x, .slice p len cap] 28)
  have l00 := six_new (k := 2) (b := b) (n := n) (t := t) (x := x) (p := p) (len := len) (cap := cap) w rfl
  go_enter Tryd.func19, Tryd.ntmps19
  go_wp2_with (first
    | ((with_reducible refine wpList_load6 (.tmp 2) w.heap.size (by assumption) ?_ ?_ ?_ ?_); rfl; rfl; rfl)
    | ((with_reducible refine wpList_load6g (.tmp 5) (w.heap.size + 1) (by assumption) ?_ ?_ ?_ ?_); rfl; rfl; rfl)
    | (go_at_call 29; (with_reducible refine (kindOfAt 2 b n t x _ 53 rfl _).mono ?_); rintro e w2 ⟨rfl, hb2⟩; have k2 := l0.below hb2; have m2 := l1.below hb2; have b2 := below_any b0 hb2 (by have := l0.lt; omega); have z2 : w.heap.size ≤ w2.heap.size := by have := k2.lt; omega
       clear l0 l1 l00 hb2 b0
       have c1 := m2.c2; have f1 := m2.free 2; have m3 := m2.set2 0; have b3 := below_set (o := 2) b2 none (.int .i64 0) (show w.heap.size ≤ w.heap.size + 1 by omega) z2; have z3 : w.heap.size ≤ (w2.setCell ⟨w.heap.size + 1, 2, none⟩ (.int .i64 0)).heap.size := by simpa [World.setCell] using z2)
    | (simp only [ta53_51, ta53_52, ta53_53, ta53_54, ta53_55, ta53_56, ta53_58, ta53_59, ta53_60, ta53_61, ta53_62, Result.andThen_ok])
    | (go_at_call 34; (with_reducible refine (isBareAt 2 _ _ _ _ _ _ _ _).mono ?_); rintro e w9 ⟨rfl, hb9⟩; have b9 := below_any b3 hb9 z3))
  go_ret
  exact ⟨rfl, b9⟩
theorem chkAs (s : ByteArray) (r : Bool) (h : chk s.data.toList = r) (w : World) (hG : Gd w) (hs : s.size < 4294967281) : Calls Tryd.prog 30 #[.string s] w fun e w' => e = .returned (.bool r) ∧ Below w.heap.size w w' := by
  subst h
  exact checkAt s w hG hs
theorem addrAs (s : ByteArray) (r : Bool) (h : addrP s = r) (w : World) (hs : s.size ≤ maxLen) : Calls Tryd.prog 31 #[.string s] w fun e w' => e = .returned (.bool r) ∧ Below w.heap.size w w' := by
  subst h
  exact (isAddressAt s w hs).mono fun _ _ ⟨h, k⟩ => ⟨h, k ▸ Below.refl _ _⟩
theorem nameAs (s : ByteArray) (r : Bool) (h : nameP s = r) (w : World) (hs : s.size ≤ maxLen) : Calls Tryd.prog 32 #[.string s] w fun e w' => e = .returned (.bool r) ∧ Below w.heap.size w w' := by
  subst h
  exact (isNameAt s w hs).mono fun _ _ ⟨h, k⟩ => ⟨h, k ▸ Below.refl _ _⟩

set_option maxRecDepth 4000 in
set_option maxHeartbeats 1600000 in
theorem mayExactYes (b : Bool) (n : Int) (t x : ByteArray) (p : Option Addr) (len cap : Nat) (d : Int) (w : World) (hG : Gd w) (hs : t.size < 4294967281) (h : chk t.data.toList = true) :
    Calls Tryd.prog 19 #[.agg #[.int .i64 3, .bool b, .int .i64 n, .string t, .string x, .slice p len cap], .int .i64 d] w fun e w' => e = .returned (.bool (bareP b n ⟨#[]⟩ x len)) ∧ Below w.heap.size w w' := by
  have l0 : Six ((w.alloc (.cells #[.int .i64 3, .bool b, .int .i64 n, .string t, .string x, .slice p len cap] 28)).alloc (.cells #[.int .i64 3, .bool b, .int .i64 n, .string t, .string x, .slice p len cap] 28)) w.heap.size 3 b n t x p len cap := (six_new w rfl).alloc _
  have l1 : Six ((w.alloc (.cells #[.int .i64 3, .bool b, .int .i64 n, .string t, .string x, .slice p len cap] 28)).alloc (.cells #[.int .i64 3, .bool b, .int .i64 n, .string t, .string x, .slice p len cap] 28)) (w.heap.size + 1) 3 b n t x p len cap := six_new _ (by simp)
  have b0 := below2 w (.cells #[.int .i64 3, .bool b, .int .i64 n, .string t, .string x, .slice p len cap] 28) (.cells #[.int .i64 3, .bool b, .int .i64 n, .string t, .string x, .slice p len cap] 28)
  have l00 := six_new (k := 3) (b := b) (n := n) (t := t) (x := x) (p := p) (len := len) (cap := cap) w rfl
  go_enter Tryd.func19, Tryd.ntmps19
  go_wp2_with (first
    | ((with_reducible refine wpList_load6 (.tmp 2) w.heap.size (by assumption) ?_ ?_ ?_ ?_); rfl; rfl; rfl)
    | ((with_reducible refine wpList_load6g (.tmp 5) (w.heap.size + 1) (by assumption) ?_ ?_ ?_ ?_); rfl; rfl; rfl)
    | (go_at_call 29; (with_reducible refine (kindOfAt 3 b n t x _ 56 rfl _).mono ?_); rintro e w2 ⟨rfl, hb2⟩; have k2 := l0.below hb2; have m2 := l1.below hb2; have b2 := below_any b0 hb2 (by have := l0.lt; omega); have z2 : w.heap.size ≤ w2.heap.size := by have := k2.lt; omega
       clear l0 l1 l00 hb2 b0
       have c3 := k2.c3)
    | (simp only [ta56_51, ta56_52, ta56_53, ta56_54, ta56_55, ta56_56, ta56_58, ta56_59, ta56_60, ta56_61, ta56_62, Result.andThen_ok])
    | (go_at_call 30; (with_reducible refine (chkAs t _ h _ (hG.below b2) hs).mono ?_); rintro e w3 ⟨rfl, hb3⟩; have b3 := below_any b2 hb3 z2; have m3 := m2.below hb3; have e3 := m3.c3; have f3 := m3.free 3; have m4 := m3.set3 ⟨#[]⟩; have z3 : w.heap.size ≤ w3.heap.size := (by have := m3.lt; omega); have b4 := below_set (o := 3) b3 none (.string ⟨#[]⟩) (show w.heap.size ≤ w.heap.size + 1 by omega) z3; have z4 : w.heap.size ≤ (w3.setCell ⟨w.heap.size + 1, 3, none⟩ (.string ⟨#[]⟩)).heap.size := by simpa [World.setCell] using z3)
    | (go_at_call 34; (with_reducible refine (isBareAt 3 _ _ _ _ _ _ _ _).mono ?_); rintro e w9 ⟨rfl, hb9⟩; have b9 := below_any b4 hb9 z4))
  go_ret
  exact ⟨rfl, b9⟩
set_option maxRecDepth 4000 in
set_option maxHeartbeats 1600000 in
theorem mayExactNo (b : Bool) (n : Int) (t x : ByteArray) (p : Option Addr) (len cap : Nat) (d : Int) (w : World) (hG : Gd w) (hs : t.size < 4294967281) (h : chk t.data.toList = false) :
    Calls Tryd.prog 19 #[.agg #[.int .i64 3, .bool b, .int .i64 n, .string t, .string x, .slice p len cap], .int .i64 d] w fun e w' => e = .returned (.bool (false)) ∧ Below w.heap.size w w' := by
  have l0 : Six ((w.alloc (.cells #[.int .i64 3, .bool b, .int .i64 n, .string t, .string x, .slice p len cap] 28)).alloc (.cells #[.int .i64 3, .bool b, .int .i64 n, .string t, .string x, .slice p len cap] 28)) w.heap.size 3 b n t x p len cap := (six_new w rfl).alloc _
  have l1 : Six ((w.alloc (.cells #[.int .i64 3, .bool b, .int .i64 n, .string t, .string x, .slice p len cap] 28)).alloc (.cells #[.int .i64 3, .bool b, .int .i64 n, .string t, .string x, .slice p len cap] 28)) (w.heap.size + 1) 3 b n t x p len cap := six_new _ (by simp)
  have b0 := below2 w (.cells #[.int .i64 3, .bool b, .int .i64 n, .string t, .string x, .slice p len cap] 28) (.cells #[.int .i64 3, .bool b, .int .i64 n, .string t, .string x, .slice p len cap] 28)
  have l00 := six_new (k := 3) (b := b) (n := n) (t := t) (x := x) (p := p) (len := len) (cap := cap) w rfl
  go_enter Tryd.func19, Tryd.ntmps19
  go_wp2_with (first
    | ((with_reducible refine wpList_load6 (.tmp 2) w.heap.size (by assumption) ?_ ?_ ?_ ?_); rfl; rfl; rfl)
    | ((with_reducible refine wpList_load6g (.tmp 5) (w.heap.size + 1) (by assumption) ?_ ?_ ?_ ?_); rfl; rfl; rfl)
    | (go_at_call 29; (with_reducible refine (kindOfAt 3 b n t x _ 56 rfl _).mono ?_); rintro e w2 ⟨rfl, hb2⟩; have k2 := l0.below hb2; have m2 := l1.below hb2; have b2 := below_any b0 hb2 (by have := l0.lt; omega); have z2 : w.heap.size ≤ w2.heap.size := by have := k2.lt; omega
       clear l0 l1 l00 hb2 b0
       have c3 := k2.c3)
    | (simp only [ta56_51, ta56_52, ta56_53, ta56_54, ta56_55, ta56_56, ta56_58, ta56_59, ta56_60, ta56_61, ta56_62, Result.andThen_ok])
    | (go_at_call 30; (with_reducible refine (chkAs t _ h _ (hG.below b2) hs).mono ?_); rintro e w3 ⟨rfl, hb3⟩; have b3 := below_any b2 hb3 z2; have m3 := m2.below hb3; have e3 := m3.c3; have f3 := m3.free 3; have m4 := m3.set3 ⟨#[]⟩; have z3 : w.heap.size ≤ w3.heap.size := (by have := m3.lt; omega); have b9 := below_set (o := 3) b3 none (.string ⟨#[]⟩) (show w.heap.size ≤ w.heap.size + 1 by omega) z3))
  go_ret
  exact ⟨rfl, b9⟩
set_option maxRecDepth 4000 in
set_option maxHeartbeats 1600000 in
theorem mayIriYes (b : Bool) (n : Int) (t x : ByteArray) (p : Option Addr) (len cap : Nat) (d : Int) (w : World) (hs : t.size ≤ maxLen) (h : addrP t = true) :
    Calls Tryd.prog 19 #[.agg #[.int .i64 8, .bool b, .int .i64 n, .string t, .string x, .slice p len cap], .int .i64 d] w fun e w' => e = .returned (.bool (bareP b n ⟨#[]⟩ x len)) ∧ Below w.heap.size w w' := by
  have l0 : Six ((w.alloc (.cells #[.int .i64 8, .bool b, .int .i64 n, .string t, .string x, .slice p len cap] 28)).alloc (.cells #[.int .i64 8, .bool b, .int .i64 n, .string t, .string x, .slice p len cap] 28)) w.heap.size 8 b n t x p len cap := (six_new w rfl).alloc _
  have l1 : Six ((w.alloc (.cells #[.int .i64 8, .bool b, .int .i64 n, .string t, .string x, .slice p len cap] 28)).alloc (.cells #[.int .i64 8, .bool b, .int .i64 n, .string t, .string x, .slice p len cap] 28)) (w.heap.size + 1) 8 b n t x p len cap := six_new _ (by simp)
  have b0 := below2 w (.cells #[.int .i64 8, .bool b, .int .i64 n, .string t, .string x, .slice p len cap] 28) (.cells #[.int .i64 8, .bool b, .int .i64 n, .string t, .string x, .slice p len cap] 28)
  have l00 := six_new (k := 8) (b := b) (n := n) (t := t) (x := x) (p := p) (len := len) (cap := cap) w rfl
  go_enter Tryd.func19, Tryd.ntmps19
  go_wp2_with (first
    | ((with_reducible refine wpList_load6 (.tmp 2) w.heap.size (by assumption) ?_ ?_ ?_ ?_); rfl; rfl; rfl)
    | ((with_reducible refine wpList_load6g (.tmp 5) (w.heap.size + 1) (by assumption) ?_ ?_ ?_ ?_); rfl; rfl; rfl)
    | (go_at_call 29; (with_reducible refine (kindOfAt 8 b n t x _ 59 rfl _).mono ?_); rintro e w2 ⟨rfl, hb2⟩; have k2 := l0.below hb2; have m2 := l1.below hb2; have b2 := below_any b0 hb2 (by have := l0.lt; omega); have z2 : w.heap.size ≤ w2.heap.size := by have := k2.lt; omega
       clear l0 l1 l00 hb2 b0
       have c3 := k2.c3)
    | (simp only [ta59_51, ta59_52, ta59_53, ta59_54, ta59_55, ta59_56, ta59_58, ta59_59, ta59_60, ta59_61, ta59_62, Result.andThen_ok])
    | (go_at_call 31; (with_reducible refine (addrAs t _ h _ hs).mono ?_); rintro e w3 ⟨rfl, hb3⟩; have b3 := below_any b2 hb3 z2; have m3 := m2.below hb3; have e3 := m3.c3; have f3 := m3.free 3; have m4 := m3.set3 ⟨#[]⟩; have z3 : w.heap.size ≤ w3.heap.size := (by have := m3.lt; omega); have b4 := below_set (o := 3) b3 none (.string ⟨#[]⟩) (show w.heap.size ≤ w.heap.size + 1 by omega) z3; have z4 : w.heap.size ≤ (w3.setCell ⟨w.heap.size + 1, 3, none⟩ (.string ⟨#[]⟩)).heap.size := by simpa [World.setCell] using z3)
    | (go_at_call 34; (with_reducible refine (isBareAt 8 _ _ _ _ _ _ _ _).mono ?_); rintro e w9 ⟨rfl, hb9⟩; have b9 := below_any b4 hb9 z4))
  go_ret
  exact ⟨rfl, b9⟩
set_option maxRecDepth 4000 in
set_option maxHeartbeats 1600000 in
theorem mayIriNo (b : Bool) (n : Int) (t x : ByteArray) (p : Option Addr) (len cap : Nat) (d : Int) (w : World) (hs : t.size ≤ maxLen) (h : addrP t = false) :
    Calls Tryd.prog 19 #[.agg #[.int .i64 8, .bool b, .int .i64 n, .string t, .string x, .slice p len cap], .int .i64 d] w fun e w' => e = .returned (.bool (false)) ∧ Below w.heap.size w w' := by
  have l0 : Six ((w.alloc (.cells #[.int .i64 8, .bool b, .int .i64 n, .string t, .string x, .slice p len cap] 28)).alloc (.cells #[.int .i64 8, .bool b, .int .i64 n, .string t, .string x, .slice p len cap] 28)) w.heap.size 8 b n t x p len cap := (six_new w rfl).alloc _
  have l1 : Six ((w.alloc (.cells #[.int .i64 8, .bool b, .int .i64 n, .string t, .string x, .slice p len cap] 28)).alloc (.cells #[.int .i64 8, .bool b, .int .i64 n, .string t, .string x, .slice p len cap] 28)) (w.heap.size + 1) 8 b n t x p len cap := six_new _ (by simp)
  have b0 := below2 w (.cells #[.int .i64 8, .bool b, .int .i64 n, .string t, .string x, .slice p len cap] 28) (.cells #[.int .i64 8, .bool b, .int .i64 n, .string t, .string x, .slice p len cap] 28)
  have l00 := six_new (k := 8) (b := b) (n := n) (t := t) (x := x) (p := p) (len := len) (cap := cap) w rfl
  go_enter Tryd.func19, Tryd.ntmps19
  go_wp2_with (first
    | ((with_reducible refine wpList_load6 (.tmp 2) w.heap.size (by assumption) ?_ ?_ ?_ ?_); rfl; rfl; rfl)
    | ((with_reducible refine wpList_load6g (.tmp 5) (w.heap.size + 1) (by assumption) ?_ ?_ ?_ ?_); rfl; rfl; rfl)
    | (go_at_call 29; (with_reducible refine (kindOfAt 8 b n t x _ 59 rfl _).mono ?_); rintro e w2 ⟨rfl, hb2⟩; have k2 := l0.below hb2; have m2 := l1.below hb2; have b2 := below_any b0 hb2 (by have := l0.lt; omega); have z2 : w.heap.size ≤ w2.heap.size := by have := k2.lt; omega
       clear l0 l1 l00 hb2 b0
       have c3 := k2.c3)
    | (simp only [ta59_51, ta59_52, ta59_53, ta59_54, ta59_55, ta59_56, ta59_58, ta59_59, ta59_60, ta59_61, ta59_62, Result.andThen_ok])
    | (go_at_call 31; (with_reducible refine (addrAs t _ h _ hs).mono ?_); rintro e w3 ⟨rfl, hb3⟩; have b3 := below_any b2 hb3 z2; have m3 := m2.below hb3; have e3 := m3.c3; have f3 := m3.free 3; have m4 := m3.set3 ⟨#[]⟩; have z3 : w.heap.size ≤ w3.heap.size := (by have := m3.lt; omega); have b9 := below_set (o := 3) b3 none (.string ⟨#[]⟩) (show w.heap.size ≤ w.heap.size + 1 by omega) z3))
  go_ret
  exact ⟨rfl, b9⟩
set_option maxRecDepth 4000 in
set_option maxHeartbeats 1600000 in
theorem mayBlankYes (b : Bool) (n : Int) (t x : ByteArray) (p : Option Addr) (len cap : Nat) (d : Int) (w : World) (hs : t.size ≤ maxLen) (h : nameP t = true) :
    Calls Tryd.prog 19 #[.agg #[.int .i64 9, .bool b, .int .i64 n, .string t, .string x, .slice p len cap], .int .i64 d] w fun e w' => e = .returned (.bool (bareP b n ⟨#[]⟩ x len)) ∧ Below w.heap.size w w' := by
  have l0 : Six ((w.alloc (.cells #[.int .i64 9, .bool b, .int .i64 n, .string t, .string x, .slice p len cap] 28)).alloc (.cells #[.int .i64 9, .bool b, .int .i64 n, .string t, .string x, .slice p len cap] 28)) w.heap.size 9 b n t x p len cap := (six_new w rfl).alloc _
  have l1 : Six ((w.alloc (.cells #[.int .i64 9, .bool b, .int .i64 n, .string t, .string x, .slice p len cap] 28)).alloc (.cells #[.int .i64 9, .bool b, .int .i64 n, .string t, .string x, .slice p len cap] 28)) (w.heap.size + 1) 9 b n t x p len cap := six_new _ (by simp)
  have b0 := below2 w (.cells #[.int .i64 9, .bool b, .int .i64 n, .string t, .string x, .slice p len cap] 28) (.cells #[.int .i64 9, .bool b, .int .i64 n, .string t, .string x, .slice p len cap] 28)
  have l00 := six_new (k := 9) (b := b) (n := n) (t := t) (x := x) (p := p) (len := len) (cap := cap) w rfl
  go_enter Tryd.func19, Tryd.ntmps19
  go_wp2_with (first
    | ((with_reducible refine wpList_load6 (.tmp 2) w.heap.size (by assumption) ?_ ?_ ?_ ?_); rfl; rfl; rfl)
    | ((with_reducible refine wpList_load6g (.tmp 5) (w.heap.size + 1) (by assumption) ?_ ?_ ?_ ?_); rfl; rfl; rfl)
    | (go_at_call 29; (with_reducible refine (kindOfAt 9 b n t x _ 60 rfl _).mono ?_); rintro e w2 ⟨rfl, hb2⟩; have k2 := l0.below hb2; have m2 := l1.below hb2; have b2 := below_any b0 hb2 (by have := l0.lt; omega); have z2 : w.heap.size ≤ w2.heap.size := by have := k2.lt; omega
       clear l0 l1 l00 hb2 b0
       have c3 := k2.c3)
    | (simp only [ta60_51, ta60_52, ta60_53, ta60_54, ta60_55, ta60_56, ta60_58, ta60_59, ta60_60, ta60_61, ta60_62, Result.andThen_ok])
    | (go_at_call 32; (with_reducible refine (nameAs t _ h _ hs).mono ?_); rintro e w3 ⟨rfl, hb3⟩; have b3 := below_any b2 hb3 z2; have m3 := m2.below hb3; have e3 := m3.c3; have f3 := m3.free 3; have m4 := m3.set3 ⟨#[]⟩; have z3 : w.heap.size ≤ w3.heap.size := (by have := m3.lt; omega); have b4 := below_set (o := 3) b3 none (.string ⟨#[]⟩) (show w.heap.size ≤ w.heap.size + 1 by omega) z3; have z4 : w.heap.size ≤ (w3.setCell ⟨w.heap.size + 1, 3, none⟩ (.string ⟨#[]⟩)).heap.size := by simpa [World.setCell] using z3)
    | (go_at_call 34; (with_reducible refine (isBareAt 9 _ _ _ _ _ _ _ _).mono ?_); rintro e w9 ⟨rfl, hb9⟩; have b9 := below_any b4 hb9 z4))
  go_ret
  exact ⟨rfl, b9⟩
set_option maxRecDepth 4000 in
set_option maxHeartbeats 1600000 in
theorem mayBlankNo (b : Bool) (n : Int) (t x : ByteArray) (p : Option Addr) (len cap : Nat) (d : Int) (w : World) (hs : t.size ≤ maxLen) (h : nameP t = false) :
    Calls Tryd.prog 19 #[.agg #[.int .i64 9, .bool b, .int .i64 n, .string t, .string x, .slice p len cap], .int .i64 d] w fun e w' => e = .returned (.bool (false)) ∧ Below w.heap.size w w' := by
  have l0 : Six ((w.alloc (.cells #[.int .i64 9, .bool b, .int .i64 n, .string t, .string x, .slice p len cap] 28)).alloc (.cells #[.int .i64 9, .bool b, .int .i64 n, .string t, .string x, .slice p len cap] 28)) w.heap.size 9 b n t x p len cap := (six_new w rfl).alloc _
  have l1 : Six ((w.alloc (.cells #[.int .i64 9, .bool b, .int .i64 n, .string t, .string x, .slice p len cap] 28)).alloc (.cells #[.int .i64 9, .bool b, .int .i64 n, .string t, .string x, .slice p len cap] 28)) (w.heap.size + 1) 9 b n t x p len cap := six_new _ (by simp)
  have b0 := below2 w (.cells #[.int .i64 9, .bool b, .int .i64 n, .string t, .string x, .slice p len cap] 28) (.cells #[.int .i64 9, .bool b, .int .i64 n, .string t, .string x, .slice p len cap] 28)
  have l00 := six_new (k := 9) (b := b) (n := n) (t := t) (x := x) (p := p) (len := len) (cap := cap) w rfl
  go_enter Tryd.func19, Tryd.ntmps19
  go_wp2_with (first
    | ((with_reducible refine wpList_load6 (.tmp 2) w.heap.size (by assumption) ?_ ?_ ?_ ?_); rfl; rfl; rfl)
    | ((with_reducible refine wpList_load6g (.tmp 5) (w.heap.size + 1) (by assumption) ?_ ?_ ?_ ?_); rfl; rfl; rfl)
    | (go_at_call 29; (with_reducible refine (kindOfAt 9 b n t x _ 60 rfl _).mono ?_); rintro e w2 ⟨rfl, hb2⟩; have k2 := l0.below hb2; have m2 := l1.below hb2; have b2 := below_any b0 hb2 (by have := l0.lt; omega); have z2 : w.heap.size ≤ w2.heap.size := by have := k2.lt; omega
       clear l0 l1 l00 hb2 b0
       have c3 := k2.c3)
    | (simp only [ta60_51, ta60_52, ta60_53, ta60_54, ta60_55, ta60_56, ta60_58, ta60_59, ta60_60, ta60_61, ta60_62, Result.andThen_ok])
    | (go_at_call 32; (with_reducible refine (nameAs t _ h _ hs).mono ?_); rintro e w3 ⟨rfl, hb3⟩; have b3 := below_any b2 hb3 z2; have m3 := m2.below hb3; have e3 := m3.c3; have f3 := m3.free 3; have m4 := m3.set3 ⟨#[]⟩; have z3 : w.heap.size ≤ w3.heap.size := (by have := m3.lt; omega); have b9 := below_set (o := 3) b3 none (.string ⟨#[]⟩) (show w.heap.size ≤ w.heap.size + 1 by omega) z3))
  go_ret
  exact ⟨rfl, b9⟩
end Go.Proofs.YtoifjjgakblhhaaDoor

/- Whether a value may be: lists, and what is of no kind. -/
namespace Go.Proofs.YtoifjjgakblhhaaDoor
open Go.RowKit

set_option maxRecDepth 4000 in
set_option maxHeartbeats 1600000 in
theorem mayListYes (b : Bool) (n : Int) (t x : ByteArray) (p : Option Addr) (len cap : Nat) (d : Int) (w : World) (d0 : 0 ≤ d) (d1 : d ≤ 1000) (hc : ∀ W, Below w.heap.size w W → Calls Tryd.prog 33 #[.slice p len cap, .int .i64 (d + 1)] W fun e w' => e = .returned (.bool true) ∧ Below W.heap.size W w') :
    Calls Tryd.prog 19 #[.agg #[.int .i64 5, .bool b, .int .i64 n, .string t, .string x, .slice p len cap], .int .i64 d] w fun e w' => e = .returned (.bool (bareP b n t x 0)) ∧ Below w.heap.size w w' := by
  have l0 : Six ((w.alloc (.cells #[.int .i64 5, .bool b, .int .i64 n, .string t, .string x, .slice p len cap] 28)).alloc (.cells #[.int .i64 5, .bool b, .int .i64 n, .string t, .string x, .slice p len cap] 28)) w.heap.size 5 b n t x p len cap := (six_new w rfl).alloc _
  have l1 : Six ((w.alloc (.cells #[.int .i64 5, .bool b, .int .i64 n, .string t, .string x, .slice p len cap] 28)).alloc (.cells #[.int .i64 5, .bool b, .int .i64 n, .string t, .string x, .slice p len cap] 28)) (w.heap.size + 1) 5 b n t x p len cap := six_new _ (by simp)
  have b0 := below2 w (.cells #[.int .i64 5, .bool b, .int .i64 n, .string t, .string x, .slice p len cap] 28) (.cells #[.int .i64 5, .bool b, .int .i64 n, .string t, .string x, .slice p len cap] 28)
  have l00 := six_new (k := 5) (b := b) (n := n) (t := t) (x := x) (p := p) (len := len) (cap := cap) w rfl
  go_enter Tryd.func19, Tryd.ntmps19
  go_wp2_with (first
    | ((with_reducible refine wpList_load6 (.tmp 2) w.heap.size (by assumption) ?_ ?_ ?_ ?_); rfl; rfl; rfl)
    | ((with_reducible refine wpList_load6g (.tmp 5) (w.heap.size + 1) (by assumption) ?_ ?_ ?_ ?_); rfl; rfl; rfl)
    | (go_at_call 29; (with_reducible refine (kindOfAt 5 b n t x _ 62 rfl _).mono ?_); rintro e w2 ⟨rfl, hb2⟩; have k2 := l0.below hb2; have m2 := l1.below hb2; have b2 := below_any b0 hb2 (by have := l0.lt; omega); have z2 : w.heap.size ≤ w2.heap.size := by have := k2.lt; omega
       clear l0 l1 l00 hb2 b0
       have c5 := k2.c5; have e1 : IntKind.i64.wrap (d + 1) = d + 1 := IntWalk.i64_in _ (by omega))
    | (simp only [ta62_51, ta62_52, ta62_53, ta62_54, ta62_55, ta62_56, ta62_58, ta62_59, ta62_60, ta62_61, ta62_62, Result.andThen_ok])
    | (go_at_call 33; (with_reducible refine (hc _ b2).mono ?_); rintro e w3 ⟨rfl, hb3⟩; have b3 := below_any b2 hb3 z2; have m3 := m2.below hb3; have e3 := m3.c5; have f3 := m3.free 5; have m4 := m3.set5 none 0 0; have z3 : w.heap.size ≤ w3.heap.size := (by have := m3.lt; omega); have b4 := below_set (o := 5) b3 none (.slice none 0 0) (show w.heap.size ≤ w.heap.size + 1 by omega) z3; have z4 : w.heap.size ≤ (w3.setCell ⟨w.heap.size + 1, 5, none⟩ (.slice none 0 0)).heap.size := by simpa [World.setCell] using z3)
    | (go_at_call 34; (with_reducible refine (isBareAt 5 _ _ _ _ _ _ _ _).mono ?_); rintro e w9 ⟨rfl, hb9⟩; have b9 := below_any b4 hb9 z4))
  go_ret
  exact ⟨rfl, b9⟩
set_option maxRecDepth 4000 in
set_option maxHeartbeats 1600000 in
theorem mayListNo (b : Bool) (n : Int) (t x : ByteArray) (p : Option Addr) (len cap : Nat) (d : Int) (w : World) (d0 : 0 ≤ d) (d1 : d ≤ 1000) (hc : ∀ W, Below w.heap.size w W → Calls Tryd.prog 33 #[.slice p len cap, .int .i64 (d + 1)] W fun e w' => e = .returned (.bool false) ∧ Below W.heap.size W w') :
    Calls Tryd.prog 19 #[.agg #[.int .i64 5, .bool b, .int .i64 n, .string t, .string x, .slice p len cap], .int .i64 d] w fun e w' => e = .returned (.bool (false)) ∧ Below w.heap.size w w' := by
  have l0 : Six ((w.alloc (.cells #[.int .i64 5, .bool b, .int .i64 n, .string t, .string x, .slice p len cap] 28)).alloc (.cells #[.int .i64 5, .bool b, .int .i64 n, .string t, .string x, .slice p len cap] 28)) w.heap.size 5 b n t x p len cap := (six_new w rfl).alloc _
  have l1 : Six ((w.alloc (.cells #[.int .i64 5, .bool b, .int .i64 n, .string t, .string x, .slice p len cap] 28)).alloc (.cells #[.int .i64 5, .bool b, .int .i64 n, .string t, .string x, .slice p len cap] 28)) (w.heap.size + 1) 5 b n t x p len cap := six_new _ (by simp)
  have b0 := below2 w (.cells #[.int .i64 5, .bool b, .int .i64 n, .string t, .string x, .slice p len cap] 28) (.cells #[.int .i64 5, .bool b, .int .i64 n, .string t, .string x, .slice p len cap] 28)
  have l00 := six_new (k := 5) (b := b) (n := n) (t := t) (x := x) (p := p) (len := len) (cap := cap) w rfl
  go_enter Tryd.func19, Tryd.ntmps19
  go_wp2_with (first
    | ((with_reducible refine wpList_load6 (.tmp 2) w.heap.size (by assumption) ?_ ?_ ?_ ?_); rfl; rfl; rfl)
    | ((with_reducible refine wpList_load6g (.tmp 5) (w.heap.size + 1) (by assumption) ?_ ?_ ?_ ?_); rfl; rfl; rfl)
    | (go_at_call 29; (with_reducible refine (kindOfAt 5 b n t x _ 62 rfl _).mono ?_); rintro e w2 ⟨rfl, hb2⟩; have k2 := l0.below hb2; have m2 := l1.below hb2; have b2 := below_any b0 hb2 (by have := l0.lt; omega); have z2 : w.heap.size ≤ w2.heap.size := by have := k2.lt; omega
       clear l0 l1 l00 hb2 b0
       have c5 := k2.c5; have e1 : IntKind.i64.wrap (d + 1) = d + 1 := IntWalk.i64_in _ (by omega))
    | (simp only [ta62_51, ta62_52, ta62_53, ta62_54, ta62_55, ta62_56, ta62_58, ta62_59, ta62_60, ta62_61, ta62_62, Result.andThen_ok])
    | (go_at_call 33; (with_reducible refine (hc _ b2).mono ?_); rintro e w3 ⟨rfl, hb3⟩; have b3 := below_any b2 hb3 z2; have m3 := m2.below hb3; have e3 := m3.c5; have f3 := m3.free 5; have m4 := m3.set5 none 0 0; have z3 : w.heap.size ≤ w3.heap.size := (by have := m3.lt; omega); have b4 := below_set (o := 5) b3 none (.slice none 0 0) (show w.heap.size ≤ w.heap.size + 1 by omega) z3; have z4 : w.heap.size ≤ (w3.setCell ⟨w.heap.size + 1, 5, none⟩ (.slice none 0 0)).heap.size := by simpa [World.setCell] using z3))
  go_ret
  exact ⟨rfl, b4⟩
set_option maxRecDepth 4000 in
set_option maxHeartbeats 1600000 in
theorem mayStranger (k : Int) (b : Bool) (n : Int) (t x : ByteArray) (p : Option Addr) (len cap : Nat) (d : Int) (w : World) (hk : kindT k = 78) :
    Calls Tryd.prog 19 #[.agg #[.int .i64 k, .bool b, .int .i64 n, .string t, .string x, .slice p len cap], .int .i64 d] w fun e w' => e = .returned (.bool (false)) ∧ Below w.heap.size w w' := by
  have l0 : Six ((w.alloc (.cells #[.int .i64 k, .bool b, .int .i64 n, .string t, .string x, .slice p len cap] 28)).alloc (.cells #[.int .i64 k, .bool b, .int .i64 n, .string t, .string x, .slice p len cap] 28)) w.heap.size k b n t x p len cap := (six_new w rfl).alloc _
  have l1 : Six ((w.alloc (.cells #[.int .i64 k, .bool b, .int .i64 n, .string t, .string x, .slice p len cap] 28)).alloc (.cells #[.int .i64 k, .bool b, .int .i64 n, .string t, .string x, .slice p len cap] 28)) (w.heap.size + 1) k b n t x p len cap := six_new _ (by simp)
  have b0 := below2 w (.cells #[.int .i64 k, .bool b, .int .i64 n, .string t, .string x, .slice p len cap] 28) (.cells #[.int .i64 k, .bool b, .int .i64 n, .string t, .string x, .slice p len cap] 28)
  have l00 := six_new (k := k) (b := b) (n := n) (t := t) (x := x) (p := p) (len := len) (cap := cap) w rfl
  go_enter Tryd.func19, Tryd.ntmps19
  go_wp2_with (first
    | ((with_reducible refine wpList_load6 (.tmp 2) w.heap.size (by assumption) ?_ ?_ ?_ ?_); rfl; rfl; rfl)
    | ((with_reducible refine wpList_load6g (.tmp 5) (w.heap.size + 1) (by assumption) ?_ ?_ ?_ ?_); rfl; rfl; rfl)
    | (go_at_call 29; (with_reducible refine (kindOfAt k b n t x _ 78 hk.symm _).mono ?_); rintro e w2 ⟨rfl, hb2⟩; have k2 := l0.below hb2; have m2 := l1.below hb2; have b2 := below_any b0 hb2 (by have := l0.lt; omega); have z2 : w.heap.size ≤ w2.heap.size := by have := k2.lt; omega
       clear l0 l1 l00 hb2 b0
       skip)
    | (simp only [ta78_51, ta78_52, ta78_53, ta78_54, ta78_55, ta78_56, ta78_58, ta78_59, ta78_60, ta78_61, ta78_62, Result.andThen_ok]))
  go_ret
  exact ⟨rfl, b2⟩
end Go.Proofs.YtoifjjgakblhhaaDoor

/- Whether a value may be: nodes, edges, texts. -/
namespace Go.Proofs.YtoifjjgakblhhaaDoor
open Go.RowKit

set_option maxRecDepth 4000 in
set_option maxHeartbeats 1600000 in
theorem mayNodeYes (b : Bool) (n : Int) (t x : ByteArray) (p : Option Addr) (len cap : Nat) (d : Int) (w : World) (hn : 0 ≤ n) :
    Calls Tryd.prog 19 #[.agg #[.int .i64 6, .bool b, .int .i64 n, .string t, .string x, .slice p len cap], .int .i64 d] w fun e w' => e = .returned (.bool (bareP b 0 t x len)) ∧ Below w.heap.size w w' := by
  have l0 : Six ((w.alloc (.cells #[.int .i64 6, .bool b, .int .i64 n, .string t, .string x, .slice p len cap] 28)).alloc (.cells #[.int .i64 6, .bool b, .int .i64 n, .string t, .string x, .slice p len cap] 28)) w.heap.size 6 b n t x p len cap := (six_new w rfl).alloc _
  have l1 : Six ((w.alloc (.cells #[.int .i64 6, .bool b, .int .i64 n, .string t, .string x, .slice p len cap] 28)).alloc (.cells #[.int .i64 6, .bool b, .int .i64 n, .string t, .string x, .slice p len cap] 28)) (w.heap.size + 1) 6 b n t x p len cap := six_new _ (by simp)
  have b0 := below2 w (.cells #[.int .i64 6, .bool b, .int .i64 n, .string t, .string x, .slice p len cap] 28) (.cells #[.int .i64 6, .bool b, .int .i64 n, .string t, .string x, .slice p len cap] 28)
  have l00 := six_new (k := 6) (b := b) (n := n) (t := t) (x := x) (p := p) (len := len) (cap := cap) w rfl
  go_enter Tryd.func19, Tryd.ntmps19
  go_wp2_with (first
    | ((with_reducible refine wpList_load6 (.tmp 2) w.heap.size (by assumption) ?_ ?_ ?_ ?_); rfl; rfl; rfl)
    | ((with_reducible refine wpList_load6g (.tmp 5) (w.heap.size + 1) (by assumption) ?_ ?_ ?_ ?_); rfl; rfl; rfl)
    | (go_at_call 29; (with_reducible refine (kindOfAt 6 b n t x _ 54 rfl _).mono ?_); rintro e w2 ⟨rfl, hb2⟩; have k2 := l0.below hb2; have m2 := l1.below hb2; have b2 := below_any b0 hb2 (by have := l0.lt; omega); have z2 : w.heap.size ≤ w2.heap.size := by have := k2.lt; omega
       clear l0 l1 l00 hb2 b0
       have c1 := m2.c2; have f1 := m2.free 2; have q1 := k2.c2; have m3 : Six (w2.setCell ⟨w.heap.size + 1, 2, none⟩ (.int .i64 0)).drew (w.heap.size + 1) _ _ _ _ _ _ _ _ := m2.set2 0; have b3 := (below_set (o := 2) b2 none (.int .i64 0) (show w.heap.size ≤ w.heap.size + 1 by omega) z2).drew; have z3 : w.heap.size ≤ (w2.setCell ⟨w.heap.size + 1, 2, none⟩ (.int .i64 0)).drew.heap.size := by simpa [World.setCell] using z2)
    | (simp only [ta54_51, ta54_52, ta54_53, ta54_54, ta54_55, ta54_56, ta54_58, ta54_59, ta54_60, ta54_61, ta54_62, Result.andThen_ok]))
  go_region_with fail
  all_goals
    go_wp2_with (first
      | ((with_reducible refine wpList_load6g (.tmp 5) (w.heap.size + 1) (by assumption) ?_ ?_ ?_ ?_); rfl; rfl; rfl)
      | (go_at_call 34; (with_reducible refine (isBareAt 6 _ _ _ _ _ _ _ _).mono ?_); rintro e w9 ⟨rfl, hb9⟩; have b9 := below_any b3 hb9 z3))
    go_ret
    exact ⟨rfl, b9⟩
set_option maxRecDepth 4000 in
set_option maxHeartbeats 1600000 in
theorem mayNodeNo (b : Bool) (n : Int) (t x : ByteArray) (p : Option Addr) (len cap : Nat) (d : Int) (w : World) (hn : ¬ 0 ≤ n) :
    Calls Tryd.prog 19 #[.agg #[.int .i64 6, .bool b, .int .i64 n, .string t, .string x, .slice p len cap], .int .i64 d] w fun e w' => e = .returned (.bool (false)) ∧ Below w.heap.size w w' := by
  have l0 : Six ((w.alloc (.cells #[.int .i64 6, .bool b, .int .i64 n, .string t, .string x, .slice p len cap] 28)).alloc (.cells #[.int .i64 6, .bool b, .int .i64 n, .string t, .string x, .slice p len cap] 28)) w.heap.size 6 b n t x p len cap := (six_new w rfl).alloc _
  have l1 : Six ((w.alloc (.cells #[.int .i64 6, .bool b, .int .i64 n, .string t, .string x, .slice p len cap] 28)).alloc (.cells #[.int .i64 6, .bool b, .int .i64 n, .string t, .string x, .slice p len cap] 28)) (w.heap.size + 1) 6 b n t x p len cap := six_new _ (by simp)
  have b0 := below2 w (.cells #[.int .i64 6, .bool b, .int .i64 n, .string t, .string x, .slice p len cap] 28) (.cells #[.int .i64 6, .bool b, .int .i64 n, .string t, .string x, .slice p len cap] 28)
  have l00 := six_new (k := 6) (b := b) (n := n) (t := t) (x := x) (p := p) (len := len) (cap := cap) w rfl
  go_enter Tryd.func19, Tryd.ntmps19
  go_wp2_with (first
    | ((with_reducible refine wpList_load6 (.tmp 2) w.heap.size (by assumption) ?_ ?_ ?_ ?_); rfl; rfl; rfl)
    | ((with_reducible refine wpList_load6g (.tmp 5) (w.heap.size + 1) (by assumption) ?_ ?_ ?_ ?_); rfl; rfl; rfl)
    | (go_at_call 29; (with_reducible refine (kindOfAt 6 b n t x _ 54 rfl _).mono ?_); rintro e w2 ⟨rfl, hb2⟩; have k2 := l0.below hb2; have m2 := l1.below hb2; have b2 := below_any b0 hb2 (by have := l0.lt; omega); have z2 : w.heap.size ≤ w2.heap.size := by have := k2.lt; omega
       clear l0 l1 l00 hb2 b0
       have c1 := m2.c2; have f1 := m2.free 2; have q1 := k2.c2; have m3 : Six (w2.setCell ⟨w.heap.size + 1, 2, none⟩ (.int .i64 0)).drew (w.heap.size + 1) _ _ _ _ _ _ _ _ := m2.set2 0; have b3 := (below_set (o := 2) b2 none (.int .i64 0) (show w.heap.size ≤ w.heap.size + 1 by omega) z2).drew; have z3 : w.heap.size ≤ (w2.setCell ⟨w.heap.size + 1, 2, none⟩ (.int .i64 0)).drew.heap.size := by simpa [World.setCell] using z2)
    | (simp only [ta54_51, ta54_52, ta54_53, ta54_54, ta54_55, ta54_56, ta54_58, ta54_59, ta54_60, ta54_61, ta54_62, Result.andThen_ok]))
  go_region_with fail
  all_goals
    go_wp2_with fail
    go_ret
    exact ⟨rfl, b3⟩
set_option maxRecDepth 4000 in
set_option maxHeartbeats 1600000 in
theorem mayEdgeYes (b : Bool) (n : Int) (t x : ByteArray) (p : Option Addr) (len cap : Nat) (d : Int) (w : World) (hn : 0 ≤ n) :
    Calls Tryd.prog 19 #[.agg #[.int .i64 7, .bool b, .int .i64 n, .string t, .string x, .slice p len cap], .int .i64 d] w fun e w' => e = .returned (.bool (bareP b 0 t x len)) ∧ Below w.heap.size w w' := by
  have l0 : Six ((w.alloc (.cells #[.int .i64 7, .bool b, .int .i64 n, .string t, .string x, .slice p len cap] 28)).alloc (.cells #[.int .i64 7, .bool b, .int .i64 n, .string t, .string x, .slice p len cap] 28)) w.heap.size 7 b n t x p len cap := (six_new w rfl).alloc _
  have l1 : Six ((w.alloc (.cells #[.int .i64 7, .bool b, .int .i64 n, .string t, .string x, .slice p len cap] 28)).alloc (.cells #[.int .i64 7, .bool b, .int .i64 n, .string t, .string x, .slice p len cap] 28)) (w.heap.size + 1) 7 b n t x p len cap := six_new _ (by simp)
  have b0 := below2 w (.cells #[.int .i64 7, .bool b, .int .i64 n, .string t, .string x, .slice p len cap] 28) (.cells #[.int .i64 7, .bool b, .int .i64 n, .string t, .string x, .slice p len cap] 28)
  have l00 := six_new (k := 7) (b := b) (n := n) (t := t) (x := x) (p := p) (len := len) (cap := cap) w rfl
  go_enter Tryd.func19, Tryd.ntmps19
  go_wp2_with (first
    | ((with_reducible refine wpList_load6 (.tmp 2) w.heap.size (by assumption) ?_ ?_ ?_ ?_); rfl; rfl; rfl)
    | ((with_reducible refine wpList_load6g (.tmp 5) (w.heap.size + 1) (by assumption) ?_ ?_ ?_ ?_); rfl; rfl; rfl)
    | (go_at_call 29; (with_reducible refine (kindOfAt 7 b n t x _ 55 rfl _).mono ?_); rintro e w2 ⟨rfl, hb2⟩; have k2 := l0.below hb2; have m2 := l1.below hb2; have b2 := below_any b0 hb2 (by have := l0.lt; omega); have z2 : w.heap.size ≤ w2.heap.size := by have := k2.lt; omega
       clear l0 l1 l00 hb2 b0
       have c1 := m2.c2; have f1 := m2.free 2; have q1 := k2.c2; have m3 : Six (w2.setCell ⟨w.heap.size + 1, 2, none⟩ (.int .i64 0)).drew (w.heap.size + 1) _ _ _ _ _ _ _ _ := m2.set2 0; have b3 := (below_set (o := 2) b2 none (.int .i64 0) (show w.heap.size ≤ w.heap.size + 1 by omega) z2).drew; have z3 : w.heap.size ≤ (w2.setCell ⟨w.heap.size + 1, 2, none⟩ (.int .i64 0)).drew.heap.size := by simpa [World.setCell] using z2)
    | (simp only [ta55_51, ta55_52, ta55_53, ta55_54, ta55_55, ta55_56, ta55_58, ta55_59, ta55_60, ta55_61, ta55_62, Result.andThen_ok]))
  go_region_with fail
  all_goals
    go_wp2_with (first
      | ((with_reducible refine wpList_load6g (.tmp 5) (w.heap.size + 1) (by assumption) ?_ ?_ ?_ ?_); rfl; rfl; rfl)
      | (go_at_call 34; (with_reducible refine (isBareAt 7 _ _ _ _ _ _ _ _).mono ?_); rintro e w9 ⟨rfl, hb9⟩; have b9 := below_any b3 hb9 z3))
    go_ret
    exact ⟨rfl, b9⟩
set_option maxRecDepth 4000 in
set_option maxHeartbeats 1600000 in
theorem mayEdgeNo (b : Bool) (n : Int) (t x : ByteArray) (p : Option Addr) (len cap : Nat) (d : Int) (w : World) (hn : ¬ 0 ≤ n) :
    Calls Tryd.prog 19 #[.agg #[.int .i64 7, .bool b, .int .i64 n, .string t, .string x, .slice p len cap], .int .i64 d] w fun e w' => e = .returned (.bool (false)) ∧ Below w.heap.size w w' := by
  have l0 : Six ((w.alloc (.cells #[.int .i64 7, .bool b, .int .i64 n, .string t, .string x, .slice p len cap] 28)).alloc (.cells #[.int .i64 7, .bool b, .int .i64 n, .string t, .string x, .slice p len cap] 28)) w.heap.size 7 b n t x p len cap := (six_new w rfl).alloc _
  have l1 : Six ((w.alloc (.cells #[.int .i64 7, .bool b, .int .i64 n, .string t, .string x, .slice p len cap] 28)).alloc (.cells #[.int .i64 7, .bool b, .int .i64 n, .string t, .string x, .slice p len cap] 28)) (w.heap.size + 1) 7 b n t x p len cap := six_new _ (by simp)
  have b0 := below2 w (.cells #[.int .i64 7, .bool b, .int .i64 n, .string t, .string x, .slice p len cap] 28) (.cells #[.int .i64 7, .bool b, .int .i64 n, .string t, .string x, .slice p len cap] 28)
  have l00 := six_new (k := 7) (b := b) (n := n) (t := t) (x := x) (p := p) (len := len) (cap := cap) w rfl
  go_enter Tryd.func19, Tryd.ntmps19
  go_wp2_with (first
    | ((with_reducible refine wpList_load6 (.tmp 2) w.heap.size (by assumption) ?_ ?_ ?_ ?_); rfl; rfl; rfl)
    | ((with_reducible refine wpList_load6g (.tmp 5) (w.heap.size + 1) (by assumption) ?_ ?_ ?_ ?_); rfl; rfl; rfl)
    | (go_at_call 29; (with_reducible refine (kindOfAt 7 b n t x _ 55 rfl _).mono ?_); rintro e w2 ⟨rfl, hb2⟩; have k2 := l0.below hb2; have m2 := l1.below hb2; have b2 := below_any b0 hb2 (by have := l0.lt; omega); have z2 : w.heap.size ≤ w2.heap.size := by have := k2.lt; omega
       clear l0 l1 l00 hb2 b0
       have c1 := m2.c2; have f1 := m2.free 2; have q1 := k2.c2; have m3 : Six (w2.setCell ⟨w.heap.size + 1, 2, none⟩ (.int .i64 0)).drew (w.heap.size + 1) _ _ _ _ _ _ _ _ := m2.set2 0; have b3 := (below_set (o := 2) b2 none (.int .i64 0) (show w.heap.size ≤ w.heap.size + 1 by omega) z2).drew; have z3 : w.heap.size ≤ (w2.setCell ⟨w.heap.size + 1, 2, none⟩ (.int .i64 0)).drew.heap.size := by simpa [World.setCell] using z2)
    | (simp only [ta55_51, ta55_52, ta55_53, ta55_54, ta55_55, ta55_56, ta55_58, ta55_59, ta55_60, ta55_61, ta55_62, Result.andThen_ok]))
  go_region_with fail
  all_goals
    go_wp2_with fail
    go_ret
    exact ⟨rfl, b3⟩
set_option maxRecDepth 4000 in
set_option maxHeartbeats 1600000 in
theorem mayTextYes (b : Bool) (n : Int) (t x : ByteArray) (p : Option Addr) (len cap : Nat) (d : Int) (w : World) (hn : (t.size : Int) ≤ 1048576) :
    Calls Tryd.prog 19 #[.agg #[.int .i64 4, .bool b, .int .i64 n, .string t, .string x, .slice p len cap], .int .i64 d] w fun e w' => e = .returned (.bool (bareP b n ⟨#[]⟩ x len)) ∧ Below w.heap.size w w' := by
  have l0 : Six ((w.alloc (.cells #[.int .i64 4, .bool b, .int .i64 n, .string t, .string x, .slice p len cap] 28)).alloc (.cells #[.int .i64 4, .bool b, .int .i64 n, .string t, .string x, .slice p len cap] 28)) w.heap.size 4 b n t x p len cap := (six_new w rfl).alloc _
  have l1 : Six ((w.alloc (.cells #[.int .i64 4, .bool b, .int .i64 n, .string t, .string x, .slice p len cap] 28)).alloc (.cells #[.int .i64 4, .bool b, .int .i64 n, .string t, .string x, .slice p len cap] 28)) (w.heap.size + 1) 4 b n t x p len cap := six_new _ (by simp)
  have b0 := below2 w (.cells #[.int .i64 4, .bool b, .int .i64 n, .string t, .string x, .slice p len cap] 28) (.cells #[.int .i64 4, .bool b, .int .i64 n, .string t, .string x, .slice p len cap] 28)
  have l00 := six_new (k := 4) (b := b) (n := n) (t := t) (x := x) (p := p) (len := len) (cap := cap) w rfl
  go_enter Tryd.func19, Tryd.ntmps19
  go_wp2_with (first
    | ((with_reducible refine wpList_load6 (.tmp 2) w.heap.size (by assumption) ?_ ?_ ?_ ?_); rfl; rfl; rfl)
    | ((with_reducible refine wpList_load6g (.tmp 5) (w.heap.size + 1) (by assumption) ?_ ?_ ?_ ?_); rfl; rfl; rfl)
    | (go_at_call 29; (with_reducible refine (kindOfAt 4 b n t x _ 58 rfl _).mono ?_); rintro e w2 ⟨rfl, hb2⟩; have k2 := l0.below hb2; have m2 := l1.below hb2; have b2 := below_any b0 hb2 (by have := l0.lt; omega); have z2 : w.heap.size ≤ w2.heap.size := by have := k2.lt; omega
       clear l0 l1 l00 hb2 b0
       have c1 := m2.c3; have f1 := m2.free 3; have q1 := k2.c3; have m3 : Six (w2.setCell ⟨w.heap.size + 1, 3, none⟩ (.string ⟨#[]⟩)).drew (w.heap.size + 1) _ _ _ _ _ _ _ _ := m2.set3 ⟨#[]⟩; have b3 := (below_set (o := 3) b2 none (.string ⟨#[]⟩) (show w.heap.size ≤ w.heap.size + 1 by omega) z2).drew; have z3 : w.heap.size ≤ (w2.setCell ⟨w.heap.size + 1, 3, none⟩ (.string ⟨#[]⟩)).drew.heap.size := by simpa [World.setCell] using z2)
    | (simp only [ta58_51, ta58_52, ta58_53, ta58_54, ta58_55, ta58_56, ta58_58, ta58_59, ta58_60, ta58_61, ta58_62, Result.andThen_ok]))
  go_region_with fail
  all_goals
    go_wp2_with (first
      | ((with_reducible refine wpList_load6g (.tmp 5) (w.heap.size + 1) (by assumption) ?_ ?_ ?_ ?_); rfl; rfl; rfl)
      | (go_at_call 34; (with_reducible refine (isBareAt 4 _ _ _ _ _ _ _ _).mono ?_); rintro e w9 ⟨rfl, hb9⟩; have b9 := below_any b3 hb9 z3))
    go_ret
    exact ⟨rfl, b9⟩
set_option maxRecDepth 4000 in
set_option maxHeartbeats 1600000 in
theorem mayTextNo (b : Bool) (n : Int) (t x : ByteArray) (p : Option Addr) (len cap : Nat) (d : Int) (w : World) (hn : ¬ (t.size : Int) ≤ 1048576) :
    Calls Tryd.prog 19 #[.agg #[.int .i64 4, .bool b, .int .i64 n, .string t, .string x, .slice p len cap], .int .i64 d] w fun e w' => e = .returned (.bool (false)) ∧ Below w.heap.size w w' := by
  have l0 : Six ((w.alloc (.cells #[.int .i64 4, .bool b, .int .i64 n, .string t, .string x, .slice p len cap] 28)).alloc (.cells #[.int .i64 4, .bool b, .int .i64 n, .string t, .string x, .slice p len cap] 28)) w.heap.size 4 b n t x p len cap := (six_new w rfl).alloc _
  have l1 : Six ((w.alloc (.cells #[.int .i64 4, .bool b, .int .i64 n, .string t, .string x, .slice p len cap] 28)).alloc (.cells #[.int .i64 4, .bool b, .int .i64 n, .string t, .string x, .slice p len cap] 28)) (w.heap.size + 1) 4 b n t x p len cap := six_new _ (by simp)
  have b0 := below2 w (.cells #[.int .i64 4, .bool b, .int .i64 n, .string t, .string x, .slice p len cap] 28) (.cells #[.int .i64 4, .bool b, .int .i64 n, .string t, .string x, .slice p len cap] 28)
  have l00 := six_new (k := 4) (b := b) (n := n) (t := t) (x := x) (p := p) (len := len) (cap := cap) w rfl
  go_enter Tryd.func19, Tryd.ntmps19
  go_wp2_with (first
    | ((with_reducible refine wpList_load6 (.tmp 2) w.heap.size (by assumption) ?_ ?_ ?_ ?_); rfl; rfl; rfl)
    | ((with_reducible refine wpList_load6g (.tmp 5) (w.heap.size + 1) (by assumption) ?_ ?_ ?_ ?_); rfl; rfl; rfl)
    | (go_at_call 29; (with_reducible refine (kindOfAt 4 b n t x _ 58 rfl _).mono ?_); rintro e w2 ⟨rfl, hb2⟩; have k2 := l0.below hb2; have m2 := l1.below hb2; have b2 := below_any b0 hb2 (by have := l0.lt; omega); have z2 : w.heap.size ≤ w2.heap.size := by have := k2.lt; omega
       clear l0 l1 l00 hb2 b0
       have c1 := m2.c3; have f1 := m2.free 3; have q1 := k2.c3; have m3 : Six (w2.setCell ⟨w.heap.size + 1, 3, none⟩ (.string ⟨#[]⟩)).drew (w.heap.size + 1) _ _ _ _ _ _ _ _ := m2.set3 ⟨#[]⟩; have b3 := (below_set (o := 3) b2 none (.string ⟨#[]⟩) (show w.heap.size ≤ w.heap.size + 1 by omega) z2).drew; have z3 : w.heap.size ≤ (w2.setCell ⟨w.heap.size + 1, 3, none⟩ (.string ⟨#[]⟩)).drew.heap.size := by simpa [World.setCell] using z2)
    | (simp only [ta58_51, ta58_52, ta58_53, ta58_54, ta58_55, ta58_56, ta58_58, ta58_59, ta58_60, ta58_61, ta58_62, Result.andThen_ok]))
  go_region_with fail
  all_goals
    go_wp2_with fail
    go_ret
    exact ⟨rfl, b3⟩
end Go.Proofs.YtoifjjgakblhhaaDoor

/- Whether a value may be: literals. -/
namespace Go.Proofs.YtoifjjgakblhhaaDoor
open Go.RowKit

set_option maxRecDepth 4000 in
set_option maxHeartbeats 1600000 in
theorem mayLitYes (b : Bool) (n : Int) (t x : ByteArray) (p : Option Addr) (len cap : Nat) (d : Int) (w : World) (hs : x.size ≤ maxLen) (hn : (t.size : Int) ≤ 1048576) (h : addrP x = true) :
    Calls Tryd.prog 19 #[.agg #[.int .i64 10, .bool b, .int .i64 n, .string t, .string x, .slice p len cap], .int .i64 d] w fun e w' => e = .returned (.bool (bareP b n ⟨#[]⟩ ⟨#[]⟩ len)) ∧ Below w.heap.size w w' := by
  have l0 : Six ((w.alloc (.cells #[.int .i64 10, .bool b, .int .i64 n, .string t, .string x, .slice p len cap] 28)).alloc (.cells #[.int .i64 10, .bool b, .int .i64 n, .string t, .string x, .slice p len cap] 28)) w.heap.size 10 b n t x p len cap := (six_new w rfl).alloc _
  have l1 : Six ((w.alloc (.cells #[.int .i64 10, .bool b, .int .i64 n, .string t, .string x, .slice p len cap] 28)).alloc (.cells #[.int .i64 10, .bool b, .int .i64 n, .string t, .string x, .slice p len cap] 28)) (w.heap.size + 1) 10 b n t x p len cap := six_new _ (by simp)
  have b0 := below2 w (.cells #[.int .i64 10, .bool b, .int .i64 n, .string t, .string x, .slice p len cap] 28) (.cells #[.int .i64 10, .bool b, .int .i64 n, .string t, .string x, .slice p len cap] 28)
  have l00 := six_new (k := 10) (b := b) (n := n) (t := t) (x := x) (p := p) (len := len) (cap := cap) w rfl
  go_enter Tryd.func19, Tryd.ntmps19
  go_wp2_with (first
    | ((with_reducible refine wpList_load6 (.tmp 2) w.heap.size (by assumption) ?_ ?_ ?_ ?_); rfl; rfl; rfl)
    | ((with_reducible refine wpList_load6g (.tmp 5) (w.heap.size + 1) (by assumption) ?_ ?_ ?_ ?_); rfl; rfl; rfl)
    | (go_at_call 29; (with_reducible refine (kindOfAt 10 b n t x _ 61 rfl _).mono ?_); rintro e w2 ⟨rfl, hb2⟩; have k2 := l0.below hb2; have m2 := l1.below hb2; have b2 := below_any b0 hb2 (by have := l0.lt; omega); have z2 : w.heap.size ≤ w2.heap.size := by have := k2.lt; omega
       clear l0 l1 l00 hb2 b0
       have c3 := k2.c3; have c4 := k2.c4)
    | (simp only [ta61_51, ta61_52, ta61_53, ta61_54, ta61_55, ta61_56, ta61_58, ta61_59, ta61_60, ta61_61, ta61_62, Result.andThen_ok])
    | (go_at_call 31; (with_reducible refine (addrAs x _ h _ hs).mono ?_); rintro e w3 ⟨rfl, hb3⟩; have b3 := below_any b2 hb3 z2; have m3 := m2.below hb3; have z3 : w.heap.size ≤ w3.heap.size := (by have := m3.lt; omega); have e3 := m3.c3; have f3 := m3.free 3; have n3 := m3.set3 ⟨#[]⟩; have e4 := n3.c4; have f4 := n3.free 4; have n4 := n3.set4 ⟨#[]⟩; have y3 : w.heap.size ≤ (w3.setCell ⟨w.heap.size + 1, 3, none⟩ (.string ⟨#[]⟩)).heap.size := (by have := n3.lt; omega); have y4 : w.heap.size ≤ ((w3.setCell ⟨w.heap.size + 1, 3, none⟩ (.string ⟨#[]⟩)).setCell ⟨w.heap.size + 1, 4, none⟩ (.string ⟨#[]⟩)).heap.size := (by have := n4.lt; omega); have b4 := below_set (o := 4) (below_set (o := 3) b3 none (.string ⟨#[]⟩) (show w.heap.size ≤ w.heap.size + 1 by omega) z3) none (.string ⟨#[]⟩) (show w.heap.size ≤ w.heap.size + 1 by omega) y3)
    | (go_at_call 34; (with_reducible refine (isBareAt 10 _ _ _ _ _ _ _ _).mono ?_); rintro e w9 ⟨rfl, hb9⟩; have b9 := below_any b4 hb9 y4))
  go_ret
  exact ⟨rfl, b9⟩
set_option maxRecDepth 4000 in
set_option maxHeartbeats 1600000 in
theorem mayLitNo (b : Bool) (n : Int) (t x : ByteArray) (p : Option Addr) (len cap : Nat) (d : Int) (w : World) (hs : x.size ≤ maxLen) (hn : (t.size : Int) ≤ 1048576) (h : addrP x = false) :
    Calls Tryd.prog 19 #[.agg #[.int .i64 10, .bool b, .int .i64 n, .string t, .string x, .slice p len cap], .int .i64 d] w fun e w' => e = .returned (.bool (false)) ∧ Below w.heap.size w w' := by
  have l0 : Six ((w.alloc (.cells #[.int .i64 10, .bool b, .int .i64 n, .string t, .string x, .slice p len cap] 28)).alloc (.cells #[.int .i64 10, .bool b, .int .i64 n, .string t, .string x, .slice p len cap] 28)) w.heap.size 10 b n t x p len cap := (six_new w rfl).alloc _
  have l1 : Six ((w.alloc (.cells #[.int .i64 10, .bool b, .int .i64 n, .string t, .string x, .slice p len cap] 28)).alloc (.cells #[.int .i64 10, .bool b, .int .i64 n, .string t, .string x, .slice p len cap] 28)) (w.heap.size + 1) 10 b n t x p len cap := six_new _ (by simp)
  have b0 := below2 w (.cells #[.int .i64 10, .bool b, .int .i64 n, .string t, .string x, .slice p len cap] 28) (.cells #[.int .i64 10, .bool b, .int .i64 n, .string t, .string x, .slice p len cap] 28)
  have l00 := six_new (k := 10) (b := b) (n := n) (t := t) (x := x) (p := p) (len := len) (cap := cap) w rfl
  go_enter Tryd.func19, Tryd.ntmps19
  go_wp2_with (first
    | ((with_reducible refine wpList_load6 (.tmp 2) w.heap.size (by assumption) ?_ ?_ ?_ ?_); rfl; rfl; rfl)
    | ((with_reducible refine wpList_load6g (.tmp 5) (w.heap.size + 1) (by assumption) ?_ ?_ ?_ ?_); rfl; rfl; rfl)
    | (go_at_call 29; (with_reducible refine (kindOfAt 10 b n t x _ 61 rfl _).mono ?_); rintro e w2 ⟨rfl, hb2⟩; have k2 := l0.below hb2; have m2 := l1.below hb2; have b2 := below_any b0 hb2 (by have := l0.lt; omega); have z2 : w.heap.size ≤ w2.heap.size := by have := k2.lt; omega
       clear l0 l1 l00 hb2 b0
       have c3 := k2.c3; have c4 := k2.c4)
    | (simp only [ta61_51, ta61_52, ta61_53, ta61_54, ta61_55, ta61_56, ta61_58, ta61_59, ta61_60, ta61_61, ta61_62, Result.andThen_ok])
    | (go_at_call 31; (with_reducible refine (addrAs x _ h _ hs).mono ?_); rintro e w3 ⟨rfl, hb3⟩; have b3 := below_any b2 hb3 z2; have m3 := m2.below hb3; have z3 : w.heap.size ≤ w3.heap.size := (by have := m3.lt; omega); have e3 := m3.c3; have f3 := m3.free 3; have n3 := m3.set3 ⟨#[]⟩; have e4 := n3.c4; have f4 := n3.free 4; have n4 := n3.set4 ⟨#[]⟩; have y3 : w.heap.size ≤ (w3.setCell ⟨w.heap.size + 1, 3, none⟩ (.string ⟨#[]⟩)).heap.size := (by have := n3.lt; omega); have y4 : w.heap.size ≤ ((w3.setCell ⟨w.heap.size + 1, 3, none⟩ (.string ⟨#[]⟩)).setCell ⟨w.heap.size + 1, 4, none⟩ (.string ⟨#[]⟩)).heap.size := (by have := n4.lt; omega); have b4 := below_set (o := 4) (below_set (o := 3) b3 none (.string ⟨#[]⟩) (show w.heap.size ≤ w.heap.size + 1 by omega) z3) none (.string ⟨#[]⟩) (show w.heap.size ≤ w.heap.size + 1 by omega) y3))
  go_ret
  exact ⟨rfl, b4⟩
set_option maxRecDepth 4000 in
set_option maxHeartbeats 1600000 in
theorem mayLitLong (b : Bool) (n : Int) (t x : ByteArray) (p : Option Addr) (len cap : Nat) (d : Int) (w : World) (hn : ¬ (t.size : Int) ≤ 1048576) :
    Calls Tryd.prog 19 #[.agg #[.int .i64 10, .bool b, .int .i64 n, .string t, .string x, .slice p len cap], .int .i64 d] w fun e w' => e = .returned (.bool (false)) ∧ Below w.heap.size w w' := by
  have l0 : Six ((w.alloc (.cells #[.int .i64 10, .bool b, .int .i64 n, .string t, .string x, .slice p len cap] 28)).alloc (.cells #[.int .i64 10, .bool b, .int .i64 n, .string t, .string x, .slice p len cap] 28)) w.heap.size 10 b n t x p len cap := (six_new w rfl).alloc _
  have l1 : Six ((w.alloc (.cells #[.int .i64 10, .bool b, .int .i64 n, .string t, .string x, .slice p len cap] 28)).alloc (.cells #[.int .i64 10, .bool b, .int .i64 n, .string t, .string x, .slice p len cap] 28)) (w.heap.size + 1) 10 b n t x p len cap := six_new _ (by simp)
  have b0 := below2 w (.cells #[.int .i64 10, .bool b, .int .i64 n, .string t, .string x, .slice p len cap] 28) (.cells #[.int .i64 10, .bool b, .int .i64 n, .string t, .string x, .slice p len cap] 28)
  have l00 := six_new (k := 10) (b := b) (n := n) (t := t) (x := x) (p := p) (len := len) (cap := cap) w rfl
  go_enter Tryd.func19, Tryd.ntmps19
  go_wp2_with (first
    | ((with_reducible refine wpList_load6 (.tmp 2) w.heap.size (by assumption) ?_ ?_ ?_ ?_); rfl; rfl; rfl)
    | ((with_reducible refine wpList_load6g (.tmp 5) (w.heap.size + 1) (by assumption) ?_ ?_ ?_ ?_); rfl; rfl; rfl)
    | (go_at_call 29; (with_reducible refine (kindOfAt 10 b n t x _ 61 rfl _).mono ?_); rintro e w2 ⟨rfl, hb2⟩; have k2 := l0.below hb2; have m2 := l1.below hb2; have b2 := below_any b0 hb2 (by have := l0.lt; omega); have z2 : w.heap.size ≤ w2.heap.size := by have := k2.lt; omega
       clear l0 l1 l00 hb2 b0
       have c3 := k2.c3; have c4 := k2.c4; have e3 := m2.c3; have f3 := m2.free 3; have n3 := m2.set3 ⟨#[]⟩; have e4 := n3.c4; have f4 := n3.free 4; have n4 := n3.set4 ⟨#[]⟩; have y3 : w.heap.size ≤ (w2.setCell ⟨w.heap.size + 1, 3, none⟩ (.string ⟨#[]⟩)).heap.size := (by have := n3.lt; omega); have y4 : w.heap.size ≤ ((w2.setCell ⟨w.heap.size + 1, 3, none⟩ (.string ⟨#[]⟩)).setCell ⟨w.heap.size + 1, 4, none⟩ (.string ⟨#[]⟩)).heap.size := (by have := n4.lt; omega); have b4 := below_set (o := 4) (below_set (o := 3) b2 none (.string ⟨#[]⟩) (show w.heap.size ≤ w.heap.size + 1 by omega) z2) none (.string ⟨#[]⟩) (show w.heap.size ≤ w.heap.size + 1 by omega) y3)
    | (simp only [ta61_51, ta61_52, ta61_53, ta61_54, ta61_55, ta61_56, ta61_58, ta61_59, ta61_60, ta61_61, ta61_62, Result.andThen_ok]))
  go_ret
  exact ⟨rfl, b4⟩
end Go.Proofs.YtoifjjgakblhhaaDoor

/- Whether a value may be, of every kind, given what its list's elements answer. -/
namespace Go.Proofs.YtoifjjgakblhhaaDoor
open Go.RowKit

/-- Whether a value may be, by its own fields; r: whether its list's elements may be. -/
def fitsP (k : Int) (b : Bool) (n : Int) (t x : ByteArray) (len : Nat) (r : Bool) : Bool :=
  if k = 0 then bareP b n t x len else if k = 1 then bareP false n t x len else if k = 2 then bareP b 0 t x len
  else if k = 3 then chk t.data.toList && bareP b n ⟨#[]⟩ x len
  else if k = 4 then decide (t.size ≤ 1048576) && bareP b n ⟨#[]⟩ x len
  else if k = 5 then r && bareP b n t x 0
  else if k = 6 ∨ k = 7 then decide (0 ≤ n) && bareP b 0 t x len
  else if k = 8 then addrP t && bareP b n ⟨#[]⟩ x len
  else if k = 9 then nameP t && bareP b n ⟨#[]⟩ x len
  else if k = 10 then decide (t.size ≤ 1048576) && (addrP x && bareP b n ⟨#[]⟩ ⟨#[]⟩ len)
  else false

theorem mayBeOf (k : Int) (b : Bool) (n : Int) (t x : ByteArray) (p : Option Addr) (len cap : Nat) (d : Int) (w : World) (r : Bool) (hG : Gd w) (ht : t.size < 4294967281) (hx : x.size < 4294967281) (d0 : 0 ≤ d) (d1 : d ≤ 1000)
    (hc : k = 5 → ∀ W, Below w.heap.size w W → Calls Tryd.prog 33 #[.slice p len cap, .int .i64 (d + 1)] W fun e w' => e = .returned (.bool r) ∧ Below W.heap.size W w') :
    Calls Tryd.prog 19 #[.agg #[.int .i64 k, .bool b, .int .i64 n, .string t, .string x, .slice p len cap], .int .i64 d] w fun e w' => e = .returned (.bool (fitsP k b n t x len r)) ∧ Below w.heap.size w w' := by
  have st : t.size ≤ maxLen := by unfold maxLen; omega
  have sx : x.size ≤ maxLen := by unfold maxLen; omega
  unfold fitsP
  split
  case isTrue h => subst h; exact mayNull b n t x p len cap d w
  split
  case isTrue h => subst h; exact mayTruth b n t x p len cap d w
  split
  case isTrue h => subst h; exact mayWhole b n t x p len cap d w
  split
  case isTrue h =>
    subst h
    by_cases e : chk t.data.toList = true
    · rw [e]; exact mayExactYes b n t x p len cap d w hG ht e
    · have e : chk t.data.toList = false := by simpa using e
      rw [e]; exact mayExactNo b n t x p len cap d w hG ht e
  split
  case isTrue h =>
    subst h
    by_cases e : t.size ≤ 1048576
    · rw [decide_eq_true e]; exact mayTextYes b n t x p len cap d w (by omega)
    · rw [decide_eq_false e]; exact mayTextNo b n t x p len cap d w (by omega)
  split
  case isTrue h =>
    subst h
    cases r with
    | true => exact mayListYes b n t x p len cap d w d0 d1 (hc rfl)
    | false => exact mayListNo b n t x p len cap d w d0 d1 (hc rfl)
  split
  case isTrue h =>
    rcases h with rfl | rfl
    · by_cases e : 0 ≤ n
      · rw [decide_eq_true e]; exact mayNodeYes b n t x p len cap d w e
      · rw [decide_eq_false e]; exact mayNodeNo b n t x p len cap d w e
    · by_cases e : 0 ≤ n
      · rw [decide_eq_true e]; exact mayEdgeYes b n t x p len cap d w e
      · rw [decide_eq_false e]; exact mayEdgeNo b n t x p len cap d w e
  split
  case isTrue h =>
    subst h
    by_cases e : addrP t = true
    · rw [e]; exact mayIriYes b n t x p len cap d w st e
    · have e : addrP t = false := by simpa using e
      rw [e]; exact mayIriNo b n t x p len cap d w st e
  split
  case isTrue h =>
    subst h
    by_cases e : nameP t = true
    · rw [e]; exact mayBlankYes b n t x p len cap d w st e
    · have e : nameP t = false := by simpa using e
      rw [e]; exact mayBlankNo b n t x p len cap d w st e
  split
  case isTrue h =>
    subst h
    by_cases e : t.size ≤ 1048576
    · rw [decide_eq_true e]
      by_cases e2 : addrP x = true
      · rw [e2]; exact mayLitYes b n t x p len cap d w sx (by omega) e2
      · have e2 : addrP x = false := by simpa using e2
        rw [e2]; exact mayLitNo b n t x p len cap d w sx (by omega) e2
    · rw [decide_eq_false e]; exact mayLitLong b n t x p len cap d w (by omega)
  have hk : kindT k = 78 := by
    unfold kindT
    simp only [*, if_false]
    rename_i h67 _ _ _
    have a6 : k ≠ 6 := fun e => h67 (.inl e)
    have a7 : k ≠ 7 := fun e => h67 (.inr e)
    simp only [a6, a7, if_false]
  exact mayStranger k b n t x p len cap d w hk

end Go.Proofs.YtoifjjgakblhhaaDoor
