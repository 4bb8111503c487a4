/- Texts of one kind, one behind the other: each says ahead of itself what it shows. -/
import Derived.Test.YtanbgdhmfjgihaaGreatDoorLac
import Derived.Test.YtanbgdhmfjgihaaGreatDoorLad
/- Whether a value may be: the kinds one by one. -/
namespace Go.Proofs.YtanbgdhmfjgihaaGreatDoor
open Go.RowKit

set_option maxRecDepth 4000 in
set_option maxHeartbeats 1600000 in
theorem mayNull (b : Bool) (n : Int) (t x : ByteArray) (p : Option Addr) (len cap : Nat) (d : Int) (w : World) :
    Calls Tryz.prog 86 #[.agg #[.int .i64 0, .bool b, .int .i64 n, .string t, .string x, .slice p len cap], .int .i64 d] w fun e w' => e = .returned (.bool (bareP b n t x len)) ∧ Low w.heap.size w w' := by
  have l0 : Six ((w.alloc (.cells #[.int .i64 0, .bool b, .int .i64 n, .string t, .string x, .slice p len cap] 39)).alloc (.cells #[.int .i64 0, .bool b, .int .i64 n, .string t, .string x, .slice p len cap] 39)) w.heap.size 0 b n t x p len cap := (six_new w rfl).alloc _
  have l1 : Six ((w.alloc (.cells #[.int .i64 0, .bool b, .int .i64 n, .string t, .string x, .slice p len cap] 39)).alloc (.cells #[.int .i64 0, .bool b, .int .i64 n, .string t, .string x, .slice p len cap] 39)) (w.heap.size + 1) 0 b n t x p len cap := six_new _ (by simp)
  have b0 := low2 w (.cells #[.int .i64 0, .bool b, .int .i64 n, .string t, .string x, .slice p len cap] 39) (.cells #[.int .i64 0, .bool b, .int .i64 n, .string t, .string x, .slice p len cap] 39)
  have l00 := six_new (k := 0) (b := b) (n := n) (t := t) (x := x) (p := p) (len := len) (cap := cap) w rfl
  go_enter Tryz.func86, Tryz.ntmps86
  go_wp2_with (first
    | ((with_reducible refine wpList_load6 (.tmp 2) w.heap.size (by assumption) ?_ ?_ ?_ ?_); rfl; rfl; rfl)
    | ((with_reducible refine wpList_load6g (.tmp 5) (w.heap.size + 1) (by assumption) ?_ ?_ ?_ ?_); rfl; rfl; rfl)
    | (go_at_call 107; (with_reducible refine (kindOfAt 0 b n t x _ 145 rfl _).mono ?_); rintro e w2 ⟨rfl, hb2⟩; have k2 := l0.below hb2.is; have m2 := l1.below hb2.is; have b2 := low_any b0 hb2 (by have := l0.lt; omega); have z2 : w.heap.size ≤ w2.heap.size := by have := k2.lt; omega
       clear l0 l1 l00 hb2 b0
       skip)
    | (simp only [ta145_145, Result.andThen_ok])
    | (go_at_call 112; (with_reducible refine (isBareAt 0 _ _ _ _ _ _ _ _).mono ?_); rintro e w9 ⟨rfl, hb9⟩; have b9 := low_any b2 hb9 z2))
  go_ret
  exact ⟨rfl, b9⟩
set_option maxRecDepth 4000 in
set_option maxHeartbeats 1600000 in
theorem mayTruth (b : Bool) (n : Int) (t x : ByteArray) (p : Option Addr) (len cap : Nat) (d : Int) (w : World) :
    Calls Tryz.prog 86 #[.agg #[.int .i64 1, .bool b, .int .i64 n, .string t, .string x, .slice p len cap], .int .i64 d] w fun e w' => e = .returned (.bool (bareP false n t x len)) ∧ Low w.heap.size w w' := by
  have l0 : Six ((w.alloc (.cells #[.int .i64 1, .bool b, .int .i64 n, .string t, .string x, .slice p len cap] 39)).alloc (.cells #[.int .i64 1, .bool b, .int .i64 n, .string t, .string x, .slice p len cap] 39)) w.heap.size 1 b n t x p len cap := (six_new w rfl).alloc _
  have l1 : Six ((w.alloc (.cells #[.int .i64 1, .bool b, .int .i64 n, .string t, .string x, .slice p len cap] 39)).alloc (.cells #[.int .i64 1, .bool b, .int .i64 n, .string t, .string x, .slice p len cap] 39)) (w.heap.size + 1) 1 b n t x p len cap := six_new _ (by simp)
  have b0 := low2 w (.cells #[.int .i64 1, .bool b, .int .i64 n, .string t, .string x, .slice p len cap] 39) (.cells #[.int .i64 1, .bool b, .int .i64 n, .string t, .string x, .slice p len cap] 39)
  have l00 := six_new (k := 1) (b := b) (n := n) (t := t) (x := x) (p := p) (len := len) (cap := cap) w rfl
  go_enter Tryz.func86, Tryz.ntmps86
  go_wp2_with (first
    | ((with_reducible refine wpList_load6 (.tmp 2) w.heap.size (by assumption) ?_ ?_ ?_ ?_); rfl; rfl; rfl)
    | ((with_reducible refine wpList_load6g (.tmp 5) (w.heap.size + 1) (by assumption) ?_ ?_ ?_ ?_); rfl; rfl; rfl)
    | (go_at_call 107; (with_reducible refine (kindOfAt 1 b n t x _ 146 rfl _).mono ?_); rintro e w2 ⟨rfl, hb2⟩; have k2 := l0.below hb2.is; have m2 := l1.below hb2.is; have b2 := low_any b0 hb2 (by have := l0.lt; omega); have z2 : w.heap.size ≤ w2.heap.size := by have := k2.lt; omega
       clear l0 l1 l00 hb2 b0
       have c1 := m2.c1; have f1 := m2.free 1; have m3 := m2.set1 false; have b3 := low_set (o := 1) b2 none (.bool false) (show w.heap.size ≤ w.heap.size + 1 by omega) z2; have z3 : w.heap.size ≤ (w2.setCell ⟨w.heap.size + 1, 1, none⟩ (.bool false)).heap.size := by simpa [World.setCell] using z2)
    | (simp only [ta146_145, ta146_146, Result.andThen_ok])
    | (go_at_call 112; (with_reducible refine (isBareAt 1 _ _ _ _ _ _ _ _).mono ?_); rintro e w9 ⟨rfl, hb9⟩; have b9 := low_any b3 hb9 z3))
  go_ret
  exact ⟨rfl, b9⟩
set_option maxRecDepth 4000 in
set_option maxHeartbeats 1600000 in
theorem mayWhole (b : Bool) (n : Int) (t x : ByteArray) (p : Option Addr) (len cap : Nat) (d : Int) (w : World) :
    Calls Tryz.prog 86 #[.agg #[.int .i64 2, .bool b, .int .i64 n, .string t, .string x, .slice p len cap], .int .i64 d] w fun e w' => e = .returned (.bool (bareP b 0 t x len)) ∧ Low w.heap.size w w' := by
  have l0 : Six ((w.alloc (.cells #[.int .i64 2, .bool b, .int .i64 n, .string t, .string x, .slice p len cap] 39)).alloc (.cells #[.int .i64 2, .bool b, .int .i64 n, .string t, .string x, .slice p len cap] 39)) w.heap.size 2 b n t x p len cap := (six_new w rfl).alloc _
  have l1 : Six ((w.alloc (.cells #[.int .i64 2, .bool b, .int .i64 n, .string t, .string x, .slice p len cap] 39)).alloc (.cells #[.int .i64 2, .bool b, .int .i64 n, .string t, .string x, .slice p len cap] 39)) (w.heap.size + 1) 2 b n t x p len cap := six_new _ (by simp)
  have b0 := low2 w (.cells #[.int .i64 2, .bool b, .int .i64 n, .string t, .string x, .slice p len cap] 39) (.cells #[.int .i64 2, .bool b, .int .i64 n, .string t, .string x, .slice p len cap] 39)
  have l00 := six_new (k := 2) (b := b) (n := n) (t := t) (x := x) (p := p) (len := len) (cap := cap) w rfl
  go_enter Tryz.func86, Tryz.ntmps86
  go_wp2_with (first
    | ((with_reducible refine wpList_load6 (.tmp 2) w.heap.size (by assumption) ?_ ?_ ?_ ?_); rfl; rfl; rfl)
    | ((with_reducible refine wpList_load6g (.tmp 5) (w.heap.size + 1) (by assumption) ?_ ?_ ?_ ?_); rfl; rfl; rfl)
    | (go_at_call 107; (with_reducible refine (kindOfAt 2 b n t x _ 147 rfl _).mono ?_); rintro e w2 ⟨rfl, hb2⟩; have k2 := l0.below hb2.is; have m2 := l1.below hb2.is; have b2 := low_any b0 hb2 (by have := l0.lt; omega); have z2 : w.heap.size ≤ w2.heap.size := by have := k2.lt; omega
       clear l0 l1 l00 hb2 b0
       have c1 := m2.c2; have f1 := m2.free 2; have m3 := m2.set2 0; have b3 := low_set (o := 2) b2 none (.int .i64 0) (show w.heap.size ≤ w.heap.size + 1 by omega) z2; have z3 : w.heap.size ≤ (w2.setCell ⟨w.heap.size + 1, 2, none⟩ (.int .i64 0)).heap.size := by simpa [World.setCell] using z2)
    | (simp only [ta147_145, ta147_146, ta147_147, Result.andThen_ok])
    | (go_at_call 112; (with_reducible refine (isBareAt 2 _ _ _ _ _ _ _ _).mono ?_); rintro e w9 ⟨rfl, hb9⟩; have b9 := low_any b3 hb9 z3))
  go_ret
  exact ⟨rfl, b9⟩
theorem chkAs (s : ByteArray) (r : Bool) (h : chk s.data.toList = r) (w : World) (hG : Gd w) (hs : s.size < 4294967281) : Calls Tryz.prog 108 #[.string s] w fun e w' => e = .returned (.bool r) ∧ Low w.heap.size w w' := by
  subst h
  exact checkAt s w hG hs
theorem addrAs (s : ByteArray) (r : Bool) (h : addrP s = r) (w : World) (hs : s.size ≤ maxLen) : Calls Tryz.prog 109 #[.string s] w fun e w' => e = .returned (.bool r) ∧ Low w.heap.size w w' := by
  subst h
  exact (isAddressAt s w hs).mono fun _ _ ⟨h, k⟩ => ⟨h, k ▸ Low.refl _ _⟩
theorem nameAs (s : ByteArray) (r : Bool) (h : nameP s = r) (w : World) (hs : s.size ≤ maxLen) : Calls Tryz.prog 110 #[.string s] w fun e w' => e = .returned (.bool r) ∧ Low w.heap.size w w' := by
  subst h
  exact (isNameAt s w hs).mono fun _ _ ⟨h, k⟩ => ⟨h, k ▸ Low.refl _ _⟩

set_option maxRecDepth 4000 in
set_option maxHeartbeats 1600000 in
theorem mayExactYes (b : Bool) (n : Int) (t x : ByteArray) (p : Option Addr) (len cap : Nat) (d : Int) (w : World) (hG : Gd w) (hs : t.size < 4294967281) (h : chk t.data.toList = true) :
    Calls Tryz.prog 86 #[.agg #[.int .i64 3, .bool b, .int .i64 n, .string t, .string x, .slice p len cap], .int .i64 d] w fun e w' => e = .returned (.bool (bareP b n ⟨#[]⟩ x len)) ∧ Low w.heap.size w w' := by
  have l0 : Six ((w.alloc (.cells #[.int .i64 3, .bool b, .int .i64 n, .string t, .string x, .slice p len cap] 39)).alloc (.cells #[.int .i64 3, .bool b, .int .i64 n, .string t, .string x, .slice p len cap] 39)) w.heap.size 3 b n t x p len cap := (six_new w rfl).alloc _
  have l1 : Six ((w.alloc (.cells #[.int .i64 3, .bool b, .int .i64 n, .string t, .string x, .slice p len cap] 39)).alloc (.cells #[.int .i64 3, .bool b, .int .i64 n, .string t, .string x, .slice p len cap] 39)) (w.heap.size + 1) 3 b n t x p len cap := six_new _ (by simp)
  have b0 := low2 w (.cells #[.int .i64 3, .bool b, .int .i64 n, .string t, .string x, .slice p len cap] 39) (.cells #[.int .i64 3, .bool b, .int .i64 n, .string t, .string x, .slice p len cap] 39)
  have l00 := six_new (k := 3) (b := b) (n := n) (t := t) (x := x) (p := p) (len := len) (cap := cap) w rfl
  go_enter Tryz.func86, Tryz.ntmps86
  go_wp2_with (first
    | ((with_reducible refine wpList_load6 (.tmp 2) w.heap.size (by assumption) ?_ ?_ ?_ ?_); rfl; rfl; rfl)
    | ((with_reducible refine wpList_load6g (.tmp 5) (w.heap.size + 1) (by assumption) ?_ ?_ ?_ ?_); rfl; rfl; rfl)
    | (go_at_call 107; (with_reducible refine (kindOfAt 3 b n t x _ 150 rfl _).mono ?_); rintro e w2 ⟨rfl, hb2⟩; have k2 := l0.below hb2.is; have m2 := l1.below hb2.is; have b2 := low_any b0 hb2 (by have := l0.lt; omega); have z2 : w.heap.size ≤ w2.heap.size := by have := k2.lt; omega
       clear l0 l1 l00 hb2 b0
       have c3 := k2.c3)
    | (simp only [ta150_145, ta150_146, ta150_147, ta150_148, ta150_149, ta150_150, Result.andThen_ok])
    | (go_at_call 108; (with_reducible refine (chkAs t _ h _ (hG.below b2.is) hs).mono ?_); rintro e w3 ⟨rfl, hb3⟩; have b3 := low_any b2 hb3 z2; have m3 := m2.below hb3.is; have e3 := m3.c3; have f3 := m3.free 3; have m4 := m3.set3 ⟨#[]⟩; have z3 : w.heap.size ≤ w3.heap.size := (by have := m3.lt; omega); have b4 := low_set (o := 3) b3 none (.string ⟨#[]⟩) (show w.heap.size ≤ w.heap.size + 1 by omega) z3; have z4 : w.heap.size ≤ (w3.setCell ⟨w.heap.size + 1, 3, none⟩ (.string ⟨#[]⟩)).heap.size := by simpa [World.setCell] using z3)
    | (go_at_call 112; (with_reducible refine (isBareAt 3 _ _ _ _ _ _ _ _).mono ?_); rintro e w9 ⟨rfl, hb9⟩; have b9 := low_any b4 hb9 z4))
  go_ret
  exact ⟨rfl, b9⟩
set_option maxRecDepth 4000 in
set_option maxHeartbeats 1600000 in
theorem mayExactNo (b : Bool) (n : Int) (t x : ByteArray) (p : Option Addr) (len cap : Nat) (d : Int) (w : World) (hG : Gd w) (hs : t.size < 4294967281) (h : chk t.data.toList = false) :
    Calls Tryz.prog 86 #[.agg #[.int .i64 3, .bool b, .int .i64 n, .string t, .string x, .slice p len cap], .int .i64 d] w fun e w' => e = .returned (.bool (false)) ∧ Low w.heap.size w w' := by
  have l0 : Six ((w.alloc (.cells #[.int .i64 3, .bool b, .int .i64 n, .string t, .string x, .slice p len cap] 39)).alloc (.cells #[.int .i64 3, .bool b, .int .i64 n, .string t, .string x, .slice p len cap] 39)) w.heap.size 3 b n t x p len cap := (six_new w rfl).alloc _
  have l1 : Six ((w.alloc (.cells #[.int .i64 3, .bool b, .int .i64 n, .string t, .string x, .slice p len cap] 39)).alloc (.cells #[.int .i64 3, .bool b, .int .i64 n, .string t, .string x, .slice p len cap] 39)) (w.heap.size + 1) 3 b n t x p len cap := six_new _ (by simp)
  have b0 := low2 w (.cells #[.int .i64 3, .bool b, .int .i64 n, .string t, .string x, .slice p len cap] 39) (.cells #[.int .i64 3, .bool b, .int .i64 n, .string t, .string x, .slice p len cap] 39)
  have l00 := six_new (k := 3) (b := b) (n := n) (t := t) (x := x) (p := p) (len := len) (cap := cap) w rfl
  go_enter Tryz.func86, Tryz.ntmps86
  go_wp2_with (first
    | ((with_reducible refine wpList_load6 (.tmp 2) w.heap.size (by assumption) ?_ ?_ ?_ ?_); rfl; rfl; rfl)
    | ((with_reducible refine wpList_load6g (.tmp 5) (w.heap.size + 1) (by assumption) ?_ ?_ ?_ ?_); rfl; rfl; rfl)
    | (go_at_call 107; (with_reducible refine (kindOfAt 3 b n t x _ 150 rfl _).mono ?_); rintro e w2 ⟨rfl, hb2⟩; have k2 := l0.below hb2.is; have m2 := l1.below hb2.is; have b2 := low_any b0 hb2 (by have := l0.lt; omega); have z2 : w.heap.size ≤ w2.heap.size := by have := k2.lt; omega
       clear l0 l1 l00 hb2 b0
       have c3 := k2.c3)
    | (simp only [ta150_145, ta150_146, ta150_147, ta150_148, ta150_149, ta150_150, Result.andThen_ok])
    | (go_at_call 108; (with_reducible refine (chkAs t _ h _ (hG.below b2.is) hs).mono ?_); rintro e w3 ⟨rfl, hb3⟩; have b3 := low_any b2 hb3 z2; have m3 := m2.below hb3.is; have e3 := m3.c3; have f3 := m3.free 3; have m4 := m3.set3 ⟨#[]⟩; have z3 : w.heap.size ≤ w3.heap.size := (by have := m3.lt; omega); have b9 := low_set (o := 3) b3 none (.string ⟨#[]⟩) (show w.heap.size ≤ w.heap.size + 1 by omega) z3))
  go_ret
  exact ⟨rfl, b9⟩
set_option maxRecDepth 4000 in
set_option maxHeartbeats 1600000 in
theorem mayIriYes (b : Bool) (n : Int) (t x : ByteArray) (p : Option Addr) (len cap : Nat) (d : Int) (w : World) (hs : t.size ≤ maxLen) (h : addrP t = true) :
    Calls Tryz.prog 86 #[.agg #[.int .i64 8, .bool b, .int .i64 n, .string t, .string x, .slice p len cap], .int .i64 d] w fun e w' => e = .returned (.bool (bareP b n ⟨#[]⟩ x len)) ∧ Low w.heap.size w w' := by
  have l0 : Six ((w.alloc (.cells #[.int .i64 8, .bool b, .int .i64 n, .string t, .string x, .slice p len cap] 39)).alloc (.cells #[.int .i64 8, .bool b, .int .i64 n, .string t, .string x, .slice p len cap] 39)) w.heap.size 8 b n t x p len cap := (six_new w rfl).alloc _
  have l1 : Six ((w.alloc (.cells #[.int .i64 8, .bool b, .int .i64 n, .string t, .string x, .slice p len cap] 39)).alloc (.cells #[.int .i64 8, .bool b, .int .i64 n, .string t, .string x, .slice p len cap] 39)) (w.heap.size + 1) 8 b n t x p len cap := six_new _ (by simp)
  have b0 := low2 w (.cells #[.int .i64 8, .bool b, .int .i64 n, .string t, .string x, .slice p len cap] 39) (.cells #[.int .i64 8, .bool b, .int .i64 n, .string t, .string x, .slice p len cap] 39)
  have l00 := six_new (k := 8) (b := b) (n := n) (t := t) (x := x) (p := p) (len := len) (cap := cap) w rfl
  go_enter Tryz.func86, Tryz.ntmps86
  go_wp2_with (first
    | ((with_reducible refine wpList_load6 (.tmp 2) w.heap.size (by assumption) ?_ ?_ ?_ ?_); rfl; rfl; rfl)
    | ((with_reducible refine wpList_load6g (.tmp 5) (w.heap.size + 1) (by assumption) ?_ ?_ ?_ ?_); rfl; rfl; rfl)
    | (go_at_call 107; (with_reducible refine (kindOfAt 8 b n t x _ 152 rfl _).mono ?_); rintro e w2 ⟨rfl, hb2⟩; have k2 := l0.below hb2.is; have m2 := l1.below hb2.is; have b2 := low_any b0 hb2 (by have := l0.lt; omega); have z2 : w.heap.size ≤ w2.heap.size := by have := k2.lt; omega
       clear l0 l1 l00 hb2 b0
       have c3 := k2.c3)
    | (simp only [ta152_145, ta152_146, ta152_147, ta152_148, ta152_149, ta152_150, ta152_151, ta152_152, Result.andThen_ok])
    | (go_at_call 109; (with_reducible refine (addrAs t _ h _ hs).mono ?_); rintro e w3 ⟨rfl, hb3⟩; have b3 := low_any b2 hb3 z2; have m3 := m2.below hb3.is; have e3 := m3.c3; have f3 := m3.free 3; have m4 := m3.set3 ⟨#[]⟩; have z3 : w.heap.size ≤ w3.heap.size := (by have := m3.lt; omega); have b4 := low_set (o := 3) b3 none (.string ⟨#[]⟩) (show w.heap.size ≤ w.heap.size + 1 by omega) z3; have z4 : w.heap.size ≤ (w3.setCell ⟨w.heap.size + 1, 3, none⟩ (.string ⟨#[]⟩)).heap.size := by simpa [World.setCell] using z3)
    | (go_at_call 112; (with_reducible refine (isBareAt 8 _ _ _ _ _ _ _ _).mono ?_); rintro e w9 ⟨rfl, hb9⟩; have b9 := low_any b4 hb9 z4))
  go_ret
  exact ⟨rfl, b9⟩
set_option maxRecDepth 4000 in
set_option maxHeartbeats 1600000 in
theorem mayIriNo (b : Bool) (n : Int) (t x : ByteArray) (p : Option Addr) (len cap : Nat) (d : Int) (w : World) (hs : t.size ≤ maxLen) (h : addrP t = false) :
    Calls Tryz.prog 86 #[.agg #[.int .i64 8, .bool b, .int .i64 n, .string t, .string x, .slice p len cap], .int .i64 d] w fun e w' => e = .returned (.bool (false)) ∧ Low w.heap.size w w' := by
  have l0 : Six ((w.alloc (.cells #[.int .i64 8, .bool b, .int .i64 n, .string t, .string x, .slice p len cap] 39)).alloc (.cells #[.int .i64 8, .bool b, .int .i64 n, .string t, .string x, .slice p len cap] 39)) w.heap.size 8 b n t x p len cap := (six_new w rfl).alloc _
  have l1 : Six ((w.alloc (.cells #[.int .i64 8, .bool b, .int .i64 n, .string t, .string x, .slice p len cap] 39)).alloc (.cells #[.int .i64 8, .bool b, .int .i64 n, .string t, .string x, .slice p len cap] 39)) (w.heap.size + 1) 8 b n t x p len cap := six_new _ (by simp)
  have b0 := low2 w (.cells #[.int .i64 8, .bool b, .int .i64 n, .string t, .string x, .slice p len cap] 39) (.cells #[.int .i64 8, .bool b, .int .i64 n, .string t, .string x, .slice p len cap] 39)
  have l00 := six_new (k := 8) (b := b) (n := n) (t := t) (x := x) (p := p) (len := len) (cap := cap) w rfl
  go_enter Tryz.func86, Tryz.ntmps86
  go_wp2_with (first
    | ((with_reducible refine wpList_load6 (.tmp 2) w.heap.size (by assumption) ?_ ?_ ?_ ?_); rfl; rfl; rfl)
    | ((with_reducible refine wpList_load6g (.tmp 5) (w.heap.size + 1) (by assumption) ?_ ?_ ?_ ?_); rfl; rfl; rfl)
    | (go_at_call 107; (with_reducible refine (kindOfAt 8 b n t x _ 152 rfl _).mono ?_); rintro e w2 ⟨rfl, hb2⟩; have k2 := l0.below hb2.is; have m2 := l1.below hb2.is; have b2 := low_any b0 hb2 (by have := l0.lt; omega); have z2 : w.heap.size ≤ w2.heap.size := by have := k2.lt; omega
       clear l0 l1 l00 hb2 b0
       have c3 := k2.c3)
    | (simp only [ta152_145, ta152_146, ta152_147, ta152_148, ta152_149, ta152_150, ta152_151, ta152_152, Result.andThen_ok])
    | (go_at_call 109; (with_reducible refine (addrAs t _ h _ hs).mono ?_); rintro e w3 ⟨rfl, hb3⟩; have b3 := low_any b2 hb3 z2; have m3 := m2.below hb3.is; have e3 := m3.c3; have f3 := m3.free 3; have m4 := m3.set3 ⟨#[]⟩; have z3 : w.heap.size ≤ w3.heap.size := (by have := m3.lt; omega); have b9 := low_set (o := 3) b3 none (.string ⟨#[]⟩) (show w.heap.size ≤ w.heap.size + 1 by omega) z3))
  go_ret
  exact ⟨rfl, b9⟩
set_option maxRecDepth 4000 in
set_option maxHeartbeats 1600000 in
theorem mayBlankYes (b : Bool) (n : Int) (t x : ByteArray) (p : Option Addr) (len cap : Nat) (d : Int) (w : World) (hs : t.size ≤ maxLen) (h : nameP t = true) :
    Calls Tryz.prog 86 #[.agg #[.int .i64 9, .bool b, .int .i64 n, .string t, .string x, .slice p len cap], .int .i64 d] w fun e w' => e = .returned (.bool (bareP b n ⟨#[]⟩ x len)) ∧ Low w.heap.size w w' := by
  have l0 : Six ((w.alloc (.cells #[.int .i64 9, .bool b, .int .i64 n, .string t, .string x, .slice p len cap] 39)).alloc (.cells #[.int .i64 9, .bool b, .int .i64 n, .string t, .string x, .slice p len cap] 39)) w.heap.size 9 b n t x p len cap := (six_new w rfl).alloc _
  have l1 : Six ((w.alloc (.cells #[.int .i64 9, .bool b, .int .i64 n, .string t, .string x, .slice p len cap] 39)).alloc (.cells #[.int .i64 9, .bool b, .int .i64 n, .string t, .string x, .slice p len cap] 39)) (w.heap.size + 1) 9 b n t x p len cap := six_new _ (by simp)
  have b0 := low2 w (.cells #[.int .i64 9, .bool b, .int .i64 n, .string t, .string x, .slice p len cap] 39) (.cells #[.int .i64 9, .bool b, .int .i64 n, .string t, .string x, .slice p len cap] 39)
  have l00 := six_new (k := 9) (b := b) (n := n) (t := t) (x := x) (p := p) (len := len) (cap := cap) w rfl
  go_enter Tryz.func86, Tryz.ntmps86
  go_wp2_with (first
    | ((with_reducible refine wpList_load6 (.tmp 2) w.heap.size (by assumption) ?_ ?_ ?_ ?_); rfl; rfl; rfl)
    | ((with_reducible refine wpList_load6g (.tmp 5) (w.heap.size + 1) (by assumption) ?_ ?_ ?_ ?_); rfl; rfl; rfl)
    | (go_at_call 107; (with_reducible refine (kindOfAt 9 b n t x _ 153 rfl _).mono ?_); rintro e w2 ⟨rfl, hb2⟩; have k2 := l0.below hb2.is; have m2 := l1.below hb2.is; have b2 := low_any b0 hb2 (by have := l0.lt; omega); have z2 : w.heap.size ≤ w2.heap.size := by have := k2.lt; omega
       clear l0 l1 l00 hb2 b0
       have c3 := k2.c3)
    | (simp only [ta153_145, ta153_146, ta153_147, ta153_148, ta153_149, ta153_150, ta153_151, ta153_152, ta153_153, Result.andThen_ok])
    | (go_at_call 110; (with_reducible refine (nameAs t _ h _ hs).mono ?_); rintro e w3 ⟨rfl, hb3⟩; have b3 := low_any b2 hb3 z2; have m3 := m2.below hb3.is; have e3 := m3.c3; have f3 := m3.free 3; have m4 := m3.set3 ⟨#[]⟩; have z3 : w.heap.size ≤ w3.heap.size := (by have := m3.lt; omega); have b4 := low_set (o := 3) b3 none (.string ⟨#[]⟩) (show w.heap.size ≤ w.heap.size + 1 by omega) z3; have z4 : w.heap.size ≤ (w3.setCell ⟨w.heap.size + 1, 3, none⟩ (.string ⟨#[]⟩)).heap.size := by simpa [World.setCell] using z3)
    | (go_at_call 112; (with_reducible refine (isBareAt 9 _ _ _ _ _ _ _ _).mono ?_); rintro e w9 ⟨rfl, hb9⟩; have b9 := low_any b4 hb9 z4))
  go_ret
  exact ⟨rfl, b9⟩
set_option maxRecDepth 4000 in
set_option maxHeartbeats 1600000 in
theorem mayBlankNo (b : Bool) (n : Int) (t x : ByteArray) (p : Option Addr) (len cap : Nat) (d : Int) (w : World) (hs : t.size ≤ maxLen) (h : nameP t = false) :
    Calls Tryz.prog 86 #[.agg #[.int .i64 9, .bool b, .int .i64 n, .string t, .string x, .slice p len cap], .int .i64 d] w fun e w' => e = .returned (.bool (false)) ∧ Low w.heap.size w w' := by
  have l0 : Six ((w.alloc (.cells #[.int .i64 9, .bool b, .int .i64 n, .string t, .string x, .slice p len cap] 39)).alloc (.cells #[.int .i64 9, .bool b, .int .i64 n, .string t, .string x, .slice p len cap] 39)) w.heap.size 9 b n t x p len cap := (six_new w rfl).alloc _
  have l1 : Six ((w.alloc (.cells #[.int .i64 9, .bool b, .int .i64 n, .string t, .string x, .slice p len cap] 39)).alloc (.cells #[.int .i64 9, .bool b, .int .i64 n, .string t, .string x, .slice p len cap] 39)) (w.heap.size + 1) 9 b n t x p len cap := six_new _ (by simp)
  have b0 := low2 w (.cells #[.int .i64 9, .bool b, .int .i64 n, .string t, .string x, .slice p len cap] 39) (.cells #[.int .i64 9, .bool b, .int .i64 n, .string t, .string x, .slice p len cap] 39)
  have l00 := six_new (k := 9) (b := b) (n := n) (t := t) (x := x) (p := p) (len := len) (cap := cap) w rfl
  go_enter Tryz.func86, Tryz.ntmps86
  go_wp2_with (first
    | ((with_reducible refine wpList_load6 (.tmp 2) w.heap.size (by assumption) ?_ ?_ ?_ ?_); rfl; rfl; rfl)
    | ((with_reducible refine wpList_load6g (.tmp 5) (w.heap.size + 1) (by assumption) ?_ ?_ ?_ ?_); rfl; rfl; rfl)
    | (go_at_call 107; (with_reducible refine (kindOfAt 9 b n t x _ 153 rfl _).mono ?_); rintro e w2 ⟨rfl, hb2⟩; have k2 := l0.below hb2.is; have m2 := l1.below hb2.is; have b2 := low_any b0 hb2 (by have := l0.lt; omega); have z2 : w.heap.size ≤ w2.heap.size := by have := k2.lt; omega
       clear l0 l1 l00 hb2 b0
       have c3 := k2.c3)
    | (simp only [ta153_145, ta153_146, ta153_147, ta153_148, ta153_149, ta153_150, ta153_151, ta153_152, ta153_153, Result.andThen_ok])
    | (go_at_call 110; (with_reducible refine (nameAs t _ h _ hs).mono ?_); rintro e w3 ⟨rfl, hb3⟩; have b3 := low_any b2 hb3 z2; have m3 := m2.below hb3.is; have e3 := m3.c3; have f3 := m3.free 3; have m4 := m3.set3 ⟨#[]⟩; have z3 : w.heap.size ≤ w3.heap.size := (by have := m3.lt; omega); have b9 := low_set (o := 3) b3 none (.string ⟨#[]⟩) (show w.heap.size ≤ w.heap.size + 1 by omega) z3))
  go_ret
  exact ⟨rfl, b9⟩
end Go.Proofs.YtanbgdhmfjgihaaGreatDoor

/- Whether a value may be: lists, and what is of no kind. -/
namespace Go.Proofs.YtanbgdhmfjgihaaGreatDoor
open Go.RowKit

set_option maxRecDepth 4000 in
set_option maxHeartbeats 1600000 in
theorem mayListYes (b : Bool) (n : Int) (t x : ByteArray) (p : Option Addr) (len cap : Nat) (d : Int) (w : World) (d0 : 0 ≤ d) (d1 : d ≤ 1000) (hc : ∀ W, Low w.heap.size w W → Calls Tryz.prog 111 #[.slice p len cap, .int .i64 (d + 1)] W fun e w' => e = .returned (.bool true) ∧ Low W.heap.size W w') :
    Calls Tryz.prog 86 #[.agg #[.int .i64 5, .bool b, .int .i64 n, .string t, .string x, .slice p len cap], .int .i64 d] w fun e w' => e = .returned (.bool (bareP b n t x 0)) ∧ Low w.heap.size w w' := by
  have l0 : Six ((w.alloc (.cells #[.int .i64 5, .bool b, .int .i64 n, .string t, .string x, .slice p len cap] 39)).alloc (.cells #[.int .i64 5, .bool b, .int .i64 n, .string t, .string x, .slice p len cap] 39)) w.heap.size 5 b n t x p len cap := (six_new w rfl).alloc _
  have l1 : Six ((w.alloc (.cells #[.int .i64 5, .bool b, .int .i64 n, .string t, .string x, .slice p len cap] 39)).alloc (.cells #[.int .i64 5, .bool b, .int .i64 n, .string t, .string x, .slice p len cap] 39)) (w.heap.size + 1) 5 b n t x p len cap := six_new _ (by simp)
  have b0 := low2 w (.cells #[.int .i64 5, .bool b, .int .i64 n, .string t, .string x, .slice p len cap] 39) (.cells #[.int .i64 5, .bool b, .int .i64 n, .string t, .string x, .slice p len cap] 39)
  have l00 := six_new (k := 5) (b := b) (n := n) (t := t) (x := x) (p := p) (len := len) (cap := cap) w rfl
  go_enter Tryz.func86, Tryz.ntmps86
  go_wp2_with (first
    | ((with_reducible refine wpList_load6 (.tmp 2) w.heap.size (by assumption) ?_ ?_ ?_ ?_); rfl; rfl; rfl)
    | ((with_reducible refine wpList_load6g (.tmp 5) (w.heap.size + 1) (by assumption) ?_ ?_ ?_ ?_); rfl; rfl; rfl)
    | (go_at_call 107; (with_reducible refine (kindOfAt 5 b n t x _ 155 rfl _).mono ?_); rintro e w2 ⟨rfl, hb2⟩; have k2 := l0.below hb2.is; have m2 := l1.below hb2.is; have b2 := low_any b0 hb2 (by have := l0.lt; omega); have z2 : w.heap.size ≤ w2.heap.size := by have := k2.lt; omega
       clear l0 l1 l00 hb2 b0
       have c5 := k2.c5; have e1 : IntKind.i64.wrap (d + 1) = d + 1 := IntWalk.i64_in _ (by omega))
    | (simp only [ta155_145, ta155_146, ta155_147, ta155_148, ta155_149, ta155_150, ta155_151, ta155_152, ta155_153, ta155_154, ta155_155, Result.andThen_ok])
    | (go_at_call 111; (with_reducible refine (hc _ b2).mono ?_); rintro e w3 ⟨rfl, hb3⟩; have b3 := low_any b2 hb3 z2; have m3 := m2.below hb3.is; have e3 := m3.c5; have f3 := m3.free 5; have m4 := m3.set5 none 0 0; have z3 : w.heap.size ≤ w3.heap.size := (by have := m3.lt; omega); have b4 := low_set (o := 5) b3 none (.slice none 0 0) (show w.heap.size ≤ w.heap.size + 1 by omega) z3; have z4 : w.heap.size ≤ (w3.setCell ⟨w.heap.size + 1, 5, none⟩ (.slice none 0 0)).heap.size := by simpa [World.setCell] using z3)
    | (go_at_call 112; (with_reducible refine (isBareAt 5 _ _ _ _ _ _ _ _).mono ?_); rintro e w9 ⟨rfl, hb9⟩; have b9 := low_any b4 hb9 z4))
  go_ret
  exact ⟨rfl, b9⟩
set_option maxRecDepth 4000 in
set_option maxHeartbeats 1600000 in
theorem mayListNo (b : Bool) (n : Int) (t x : ByteArray) (p : Option Addr) (len cap : Nat) (d : Int) (w : World) (d0 : 0 ≤ d) (d1 : d ≤ 1000) (hc : ∀ W, Low w.heap.size w W → Calls Tryz.prog 111 #[.slice p len cap, .int .i64 (d + 1)] W fun e w' => e = .returned (.bool false) ∧ Low W.heap.size W w') :
    Calls Tryz.prog 86 #[.agg #[.int .i64 5, .bool b, .int .i64 n, .string t, .string x, .slice p len cap], .int .i64 d] w fun e w' => e = .returned (.bool (false)) ∧ Low w.heap.size w w' := by
  have l0 : Six ((w.alloc (.cells #[.int .i64 5, .bool b, .int .i64 n, .string t, .string x, .slice p len cap] 39)).alloc (.cells #[.int .i64 5, .bool b, .int .i64 n, .string t, .string x, .slice p len cap] 39)) w.heap.size 5 b n t x p len cap := (six_new w rfl).alloc _
  have l1 : Six ((w.alloc (.cells #[.int .i64 5, .bool b, .int .i64 n, .string t, .string x, .slice p len cap] 39)).alloc (.cells #[.int .i64 5, .bool b, .int .i64 n, .string t, .string x, .slice p len cap] 39)) (w.heap.size + 1) 5 b n t x p len cap := six_new _ (by simp)
  have b0 := low2 w (.cells #[.int .i64 5, .bool b, .int .i64 n, .string t, .string x, .slice p len cap] 39) (.cells #[.int .i64 5, .bool b, .int .i64 n, .string t, .string x, .slice p len cap] 39)
  have l00 := six_new (k := 5) (b := b) (n := n) (t := t) (x := x) (p := p) (len := len) (cap := cap) w rfl
  go_enter Tryz.func86, Tryz.ntmps86
  go_wp2_with (first
    | ((with_reducible refine wpList_load6 (.tmp 2) w.heap.size (by assumption) ?_ ?_ ?_ ?_); rfl; rfl; rfl)
    | ((with_reducible refine wpList_load6g (.tmp 5) (w.heap.size + 1) (by assumption) ?_ ?_ ?_ ?_); rfl; rfl; rfl)
    | (go_at_call 107; (with_reducible refine (kindOfAt 5 b n t x _ 155 rfl _).mono ?_); rintro e w2 ⟨rfl, hb2⟩; have k2 := l0.below hb2.is; have m2 := l1.below hb2.is; have b2 := low_any b0 hb2 (by have := l0.lt; omega); have z2 : w.heap.size ≤ w2.heap.size := by have := k2.lt; omega
       clear l0 l1 l00 hb2 b0
       have c5 := k2.c5; have e1 : IntKind.i64.wrap (d + 1) = d + 1 := IntWalk.i64_in _ (by omega))
    | (simp only [ta155_145, ta155_146, ta155_147, ta155_148, ta155_149, ta155_150, ta155_151, ta155_152, ta155_153, ta155_154, ta155_155, Result.andThen_ok])
    | (go_at_call 111; (with_reducible refine (hc _ b2).mono ?_); rintro e w3 ⟨rfl, hb3⟩; have b3 := low_any b2 hb3 z2; have m3 := m2.below hb3.is; have e3 := m3.c5; have f3 := m3.free 5; have m4 := m3.set5 none 0 0; have z3 : w.heap.size ≤ w3.heap.size := (by have := m3.lt; omega); have b4 := low_set (o := 5) b3 none (.slice none 0 0) (show w.heap.size ≤ w.heap.size + 1 by omega) z3; have z4 : w.heap.size ≤ (w3.setCell ⟨w.heap.size + 1, 5, none⟩ (.slice none 0 0)).heap.size := by simpa [World.setCell] using z3))
  go_ret
  exact ⟨rfl, b4⟩
set_option maxRecDepth 4000 in
set_option maxHeartbeats 1600000 in
theorem mayStranger (k : Int) (b : Bool) (n : Int) (t x : ByteArray) (p : Option Addr) (len cap : Nat) (d : Int) (w : World) (hk : kindT k = 188) :
    Calls Tryz.prog 86 #[.agg #[.int .i64 k, .bool b, .int .i64 n, .string t, .string x, .slice p len cap], .int .i64 d] w fun e w' => e = .returned (.bool (false)) ∧ Low w.heap.size w w' := by
  have l0 : Six ((w.alloc (.cells #[.int .i64 k, .bool b, .int .i64 n, .string t, .string x, .slice p len cap] 39)).alloc (.cells #[.int .i64 k, .bool b, .int .i64 n, .string t, .string x, .slice p len cap] 39)) w.heap.size k b n t x p len cap := (six_new w rfl).alloc _
  have l1 : Six ((w.alloc (.cells #[.int .i64 k, .bool b, .int .i64 n, .string t, .string x, .slice p len cap] 39)).alloc (.cells #[.int .i64 k, .bool b, .int .i64 n, .string t, .string x, .slice p len cap] 39)) (w.heap.size + 1) k b n t x p len cap := six_new _ (by simp)
  have b0 := low2 w (.cells #[.int .i64 k, .bool b, .int .i64 n, .string t, .string x, .slice p len cap] 39) (.cells #[.int .i64 k, .bool b, .int .i64 n, .string t, .string x, .slice p len cap] 39)
  have l00 := six_new (k := k) (b := b) (n := n) (t := t) (x := x) (p := p) (len := len) (cap := cap) w rfl
  go_enter Tryz.func86, Tryz.ntmps86
  go_wp2_with (first
    | ((with_reducible refine wpList_load6 (.tmp 2) w.heap.size (by assumption) ?_ ?_ ?_ ?_); rfl; rfl; rfl)
    | ((with_reducible refine wpList_load6g (.tmp 5) (w.heap.size + 1) (by assumption) ?_ ?_ ?_ ?_); rfl; rfl; rfl)
    | (go_at_call 107; (with_reducible refine (kindOfAt k b n t x _ 188 hk.symm _).mono ?_); rintro e w2 ⟨rfl, hb2⟩; have k2 := l0.below hb2.is; have m2 := l1.below hb2.is; have b2 := low_any b0 hb2 (by have := l0.lt; omega); have z2 : w.heap.size ≤ w2.heap.size := by have := k2.lt; omega
       clear l0 l1 l00 hb2 b0
       skip)
    | (simp only [ta188_145, ta188_146, ta188_147, ta188_148, ta188_149, ta188_150, ta188_151, ta188_152, ta188_153, ta188_154, ta188_155, Result.andThen_ok]))
  go_ret
  exact ⟨rfl, b2⟩
end Go.Proofs.YtanbgdhmfjgihaaGreatDoor
