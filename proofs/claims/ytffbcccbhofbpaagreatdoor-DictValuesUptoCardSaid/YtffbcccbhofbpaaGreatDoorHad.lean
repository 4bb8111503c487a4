/- Texts of one kind, one behind the other: each says ahead of itself what it shows. -/
import Derived.Test.YtffbcccbhofbpaaGreatDoorHab
import Derived.Test.YtffbcccbhofbpaaGreatDoorHac
/- Whether a value may be: the kinds one by one. -/
namespace Go.Proofs.YtffbcccbhofbpaaGreatDoor
open Go.RowKit

set_option maxRecDepth 4000 in
set_option maxHeartbeats 1600000 in
theorem mayNull (b : Bool) (n : Int) (t x : ByteArray) (p : Option Addr) (len cap : Nat) (d : Int) (w : World) :
    Calls Tryz.prog 46 #[.agg #[.int .i64 0, .bool b, .int .i64 n, .string t, .string x, .slice p len cap], .int .i64 d] w fun e w' => e = .returned (.bool (bareP b n t x len)) ∧ Below w.heap.size w w' := by
  have l0 : Six ((w.alloc (.cells #[.int .i64 0, .bool b, .int .i64 n, .string t, .string x, .slice p len cap] 31)).alloc (.cells #[.int .i64 0, .bool b, .int .i64 n, .string t, .string x, .slice p len cap] 31)) w.heap.size 0 b n t x p len cap := (six_new w rfl).alloc _
  have l1 : Six ((w.alloc (.cells #[.int .i64 0, .bool b, .int .i64 n, .string t, .string x, .slice p len cap] 31)).alloc (.cells #[.int .i64 0, .bool b, .int .i64 n, .string t, .string x, .slice p len cap] 31)) (w.heap.size + 1) 0 b n t x p len cap := six_new _ (by simp)
  have b0 := below2 w (.cells #[.int .i64 0, .bool b, .int .i64 n, .string t, .string x, .slice p len cap] 31) (.cells #[.int .i64 0, .bool b, .int .i64 n, .string t, .string x, .slice p len cap] 31)
  have l00 := six_new (k := 0) (b := b) (n := n) (t := t) (x := x) (p := p) (len := len) (cap := cap) w rfl
  go_enter Tryz.func46, Tryz.ntmps46
  go_wp2_with (first
    | ((with_reducible refine wpList_load6 (.tmp 2) w.heap.size (by assumption) ?_ ?_ ?_ ?_); rfl; rfl; rfl)
    | ((with_reducible refine wpList_load6g (.tmp 5) (w.heap.size + 1) (by assumption) ?_ ?_ ?_ ?_); rfl; rfl; rfl)
    | (go_at_call 47; (with_reducible refine (kindOfAt 0 b n t x _ 113 rfl _).mono ?_); rintro e w2 ⟨rfl, hb2⟩; have k2 := l0.below hb2; have m2 := l1.below hb2; have b2 := below_any b0 hb2 (by have := l0.lt; omega); have z2 : w.heap.size ≤ w2.heap.size := by have := k2.lt; omega
       clear l0 l1 l00 hb2 b0
       skip)
    | (simp only [ta113_113, ta113_91, ta113_93, ta113_94, ta113_95, ta113_97, ta113_98, ta113_99, ta113_100, ta113_102, ta113_103, Result.andThen_ok])
    | (go_at_call 60; (with_reducible refine (isBareAt 0 _ _ _ _ _ _ _ _).mono ?_); rintro e w9 ⟨rfl, hb9⟩; have b9 := below_any b2 hb9 z2))
  go_ret
  exact ⟨rfl, b9⟩
set_option maxRecDepth 4000 in
set_option maxHeartbeats 1600000 in
theorem mayTruth (b : Bool) (n : Int) (t x : ByteArray) (p : Option Addr) (len cap : Nat) (d : Int) (w : World) :
    Calls Tryz.prog 46 #[.agg #[.int .i64 1, .bool b, .int .i64 n, .string t, .string x, .slice p len cap], .int .i64 d] w fun e w' => e = .returned (.bool (bareP false n t x len)) ∧ Below w.heap.size w w' := by
  have l0 : Six ((w.alloc (.cells #[.int .i64 1, .bool b, .int .i64 n, .string t, .string x, .slice p len cap] 31)).alloc (.cells #[.int .i64 1, .bool b, .int .i64 n, .string t, .string x, .slice p len cap] 31)) w.heap.size 1 b n t x p len cap := (six_new w rfl).alloc _
  have l1 : Six ((w.alloc (.cells #[.int .i64 1, .bool b, .int .i64 n, .string t, .string x, .slice p len cap] 31)).alloc (.cells #[.int .i64 1, .bool b, .int .i64 n, .string t, .string x, .slice p len cap] 31)) (w.heap.size + 1) 1 b n t x p len cap := six_new _ (by simp)
  have b0 := below2 w (.cells #[.int .i64 1, .bool b, .int .i64 n, .string t, .string x, .slice p len cap] 31) (.cells #[.int .i64 1, .bool b, .int .i64 n, .string t, .string x, .slice p len cap] 31)
  have l00 := six_new (k := 1) (b := b) (n := n) (t := t) (x := x) (p := p) (len := len) (cap := cap) w rfl
  go_enter Tryz.func46, Tryz.ntmps46
  go_wp2_with (first
    | ((with_reducible refine wpList_load6 (.tmp 2) w.heap.size (by assumption) ?_ ?_ ?_ ?_); rfl; rfl; rfl)
    | ((with_reducible refine wpList_load6g (.tmp 5) (w.heap.size + 1) (by assumption) ?_ ?_ ?_ ?_); rfl; rfl; rfl)
    | (go_at_call 47; (with_reducible refine (kindOfAt 1 b n t x _ 91 rfl _).mono ?_); rintro e w2 ⟨rfl, hb2⟩; have k2 := l0.below hb2; have m2 := l1.below hb2; have b2 := below_any b0 hb2 (by have := l0.lt; omega); have z2 : w.heap.size ≤ w2.heap.size := by have := k2.lt; omega
       clear l0 l1 l00 hb2 b0
       have c1 := m2.c1; have f1 := m2.free 1; have m3 := m2.set1 false; have b3 := below_set (o := 1) b2 none (.bool false) (show w.heap.size ≤ w.heap.size + 1 by omega) z2; have z3 : w.heap.size ≤ (w2.setCell ⟨w.heap.size + 1, 1, none⟩ (.bool false)).heap.size := by simpa [World.setCell] using z2)
    | (simp only [ta91_113, ta91_91, ta91_93, ta91_94, ta91_95, ta91_97, ta91_98, ta91_99, ta91_100, ta91_102, ta91_103, Result.andThen_ok])
    | (go_at_call 60; (with_reducible refine (isBareAt 1 _ _ _ _ _ _ _ _).mono ?_); rintro e w9 ⟨rfl, hb9⟩; have b9 := below_any b3 hb9 z3))
  go_ret
  exact ⟨rfl, b9⟩
set_option maxRecDepth 4000 in
set_option maxHeartbeats 1600000 in
theorem mayWhole (b : Bool) (n : Int) (t x : ByteArray) (p : Option Addr) (len cap : Nat) (d : Int) (w : World) :
    Calls Tryz.prog 46 #[.agg #[.int .i64 2, .bool b, .int .i64 n, .string t, .string x, .slice p len cap], .int .i64 d] w fun e w' => e = .returned (.bool (bareP b 0 t x len)) ∧ Below w.heap.size w w' := by
  have l0 : Six ((w.alloc (.cells #[.int .i64 2, .bool b, .int .i64 n, .string t, .string x, .slice p len cap] 31)).alloc (.cells #[.int .i64 2, .bool b, .int .i64 n, .string t, .string x, .slice p len cap] 31)) w.heap.size 2 b n t x p len cap := (six_new w rfl).alloc _
  have l1 : Six ((w.alloc (.cells #[.int .i64 2, .bool b, .int .i64 n, .string t, .string x, .slice p len cap] 31)).alloc (.cells #[.int .i64 2, .bool b, .int .i64 n, .string t, .string x, .slice p len cap] 31)) (w.heap.size + 1) 2 b n t x p len cap := six_new _ (by simp)
  have b0 := below2 w (.cells #[.int .i64 2, .bool b, .int .i64 n, .string t, .string x, .slice p len cap] 31) (.cells #[.int .i64 2, .bool b, .int .i64 n, .string t, .string x, .slice p len cap] 31)
  have l00 := six_new (k := 2) (b := b) (n := n) (t := t) (x := x) (p := p) (len := len) (cap := cap) w rfl
  go_enter Tryz.func46, Tryz.ntmps46
  go_wp2_with (first
    | ((with_reducible refine wpList_load6 (.tmp 2) w.heap.size (by assumption) ?_ ?_ ?_ ?_); rfl; rfl; rfl)
    | ((with_reducible refine wpList_load6g (.tmp 5) (w.heap.size + 1) (by assumption) ?_ ?_ ?_ ?_); rfl; rfl; rfl)
    | (go_at_call 47; (with_reducible refine (kindOfAt 2 b n t x _ 93 rfl _).mono ?_); rintro e w2 ⟨rfl, hb2⟩; have k2 := l0.below hb2; have m2 := l1.below hb2; have b2 := below_any b0 hb2 (by have := l0.lt; omega); have z2 : w.heap.size ≤ w2.heap.size := by have := k2.lt; omega
       clear l0 l1 l00 hb2 b0
       have c1 := m2.c2; have f1 := m2.free 2; have m3 := m2.set2 0; have b3 := below_set (o := 2) b2 none (.int .i64 0) (show w.heap.size ≤ w.heap.size + 1 by omega) z2; have z3 : w.heap.size ≤ (w2.setCell ⟨w.heap.size + 1, 2, none⟩ (.int .i64 0)).heap.size := by simpa [World.setCell] using z2)
    | (simp only [ta93_113, ta93_91, ta93_93, ta93_94, ta93_95, ta93_97, ta93_98, ta93_99, ta93_100, ta93_102, ta93_103, Result.andThen_ok])
    | (go_at_call 60; (with_reducible refine (isBareAt 2 _ _ _ _ _ _ _ _).mono ?_); rintro e w9 ⟨rfl, hb9⟩; have b9 := below_any b3 hb9 z3))
  go_ret
  exact ⟨rfl, b9⟩
theorem chkAs (s : ByteArray) (r : Bool) (h : chk s.data.toList = r) (w : World) (hG : Gd w) (hs : s.size < 4294967281) : Calls Tryz.prog 56 #[.string s] w fun e w' => e = .returned (.bool r) ∧ Below w.heap.size w w' := by
  subst h
  exact checkAt s w hG hs
theorem addrAs (s : ByteArray) (r : Bool) (h : addrP s = r) (w : World) (hs : s.size ≤ maxLen) : Calls Tryz.prog 57 #[.string s] w fun e w' => e = .returned (.bool r) ∧ Below w.heap.size w w' := by
  subst h
  exact (isAddressAt s w hs).mono fun _ _ ⟨h, k⟩ => ⟨h, k ▸ Below.refl _ _⟩
theorem nameAs (s : ByteArray) (r : Bool) (h : nameP s = r) (w : World) (hs : s.size ≤ maxLen) : Calls Tryz.prog 58 #[.string s] w fun e w' => e = .returned (.bool r) ∧ Below w.heap.size w w' := by
  subst h
  exact (isNameAt s w hs).mono fun _ _ ⟨h, k⟩ => ⟨h, k ▸ Below.refl _ _⟩

set_option maxRecDepth 4000 in
set_option maxHeartbeats 1600000 in
theorem mayExactYes (b : Bool) (n : Int) (t x : ByteArray) (p : Option Addr) (len cap : Nat) (d : Int) (w : World) (hG : Gd w) (hs : t.size < 4294967281) (h : chk t.data.toList = true) :
    Calls Tryz.prog 46 #[.agg #[.int .i64 3, .bool b, .int .i64 n, .string t, .string x, .slice p len cap], .int .i64 d] w fun e w' => e = .returned (.bool (bareP b n ⟨#[]⟩ x len)) ∧ Below w.heap.size w w' := by
  have l0 : Six ((w.alloc (.cells #[.int .i64 3, .bool b, .int .i64 n, .string t, .string x, .slice p len cap] 31)).alloc (.cells #[.int .i64 3, .bool b, .int .i64 n, .string t, .string x, .slice p len cap] 31)) w.heap.size 3 b n t x p len cap := (six_new w rfl).alloc _
  have l1 : Six ((w.alloc (.cells #[.int .i64 3, .bool b, .int .i64 n, .string t, .string x, .slice p len cap] 31)).alloc (.cells #[.int .i64 3, .bool b, .int .i64 n, .string t, .string x, .slice p len cap] 31)) (w.heap.size + 1) 3 b n t x p len cap := six_new _ (by simp)
  have b0 := below2 w (.cells #[.int .i64 3, .bool b, .int .i64 n, .string t, .string x, .slice p len cap] 31) (.cells #[.int .i64 3, .bool b, .int .i64 n, .string t, .string x, .slice p len cap] 31)
  have l00 := six_new (k := 3) (b := b) (n := n) (t := t) (x := x) (p := p) (len := len) (cap := cap) w rfl
  go_enter Tryz.func46, Tryz.ntmps46
  go_wp2_with (first
    | ((with_reducible refine wpList_load6 (.tmp 2) w.heap.size (by assumption) ?_ ?_ ?_ ?_); rfl; rfl; rfl)
    | ((with_reducible refine wpList_load6g (.tmp 5) (w.heap.size + 1) (by assumption) ?_ ?_ ?_ ?_); rfl; rfl; rfl)
    | (go_at_call 47; (with_reducible refine (kindOfAt 3 b n t x _ 97 rfl _).mono ?_); rintro e w2 ⟨rfl, hb2⟩; have k2 := l0.below hb2; have m2 := l1.below hb2; have b2 := below_any b0 hb2 (by have := l0.lt; omega); have z2 : w.heap.size ≤ w2.heap.size := by have := k2.lt; omega
       clear l0 l1 l00 hb2 b0
       have c3 := k2.c3)
    | (simp only [ta97_113, ta97_91, ta97_93, ta97_94, ta97_95, ta97_97, ta97_98, ta97_99, ta97_100, ta97_102, ta97_103, Result.andThen_ok])
    | (go_at_call 56; (with_reducible refine (chkAs t _ h _ (hG.below b2) hs).mono ?_); rintro e w3 ⟨rfl, hb3⟩; have b3 := below_any b2 hb3 z2; have m3 := m2.below hb3; have e3 := m3.c3; have f3 := m3.free 3; have m4 := m3.set3 ⟨#[]⟩; have z3 : w.heap.size ≤ w3.heap.size := (by have := m3.lt; omega); have b4 := below_set (o := 3) b3 none (.string ⟨#[]⟩) (show w.heap.size ≤ w.heap.size + 1 by omega) z3; have z4 : w.heap.size ≤ (w3.setCell ⟨w.heap.size + 1, 3, none⟩ (.string ⟨#[]⟩)).heap.size := by simpa [World.setCell] using z3)
    | (go_at_call 60; (with_reducible refine (isBareAt 3 _ _ _ _ _ _ _ _).mono ?_); rintro e w9 ⟨rfl, hb9⟩; have b9 := below_any b4 hb9 z4))
  go_ret
  exact ⟨rfl, b9⟩
set_option maxRecDepth 4000 in
set_option maxHeartbeats 1600000 in
theorem mayExactNo (b : Bool) (n : Int) (t x : ByteArray) (p : Option Addr) (len cap : Nat) (d : Int) (w : World) (hG : Gd w) (hs : t.size < 4294967281) (h : chk t.data.toList = false) :
    Calls Tryz.prog 46 #[.agg #[.int .i64 3, .bool b, .int .i64 n, .string t, .string x, .slice p len cap], .int .i64 d] w fun e w' => e = .returned (.bool (false)) ∧ Below w.heap.size w w' := by
  have l0 : Six ((w.alloc (.cells #[.int .i64 3, .bool b, .int .i64 n, .string t, .string x, .slice p len cap] 31)).alloc (.cells #[.int .i64 3, .bool b, .int .i64 n, .string t, .string x, .slice p len cap] 31)) w.heap.size 3 b n t x p len cap := (six_new w rfl).alloc _
  have l1 : Six ((w.alloc (.cells #[.int .i64 3, .bool b, .int .i64 n, .string t, .string x, .slice p len cap] 31)).alloc (.cells #[.int .i64 3, .bool b, .int .i64 n, .string t, .string x, .slice p len cap] 31)) (w.heap.size + 1) 3 b n t x p len cap := six_new _ (by simp)
  have b0 := below2 w (.cells #[.int .i64 3, .bool b, .int .i64 n, .string t, .string x, .slice p len cap] 31) (.cells #[.int .i64 3, .bool b, .int .i64 n, .string t, .string x, .slice p len cap] 31)
  have l00 := six_new (k := 3) (b := b) (n := n) (t := t) (x := x) (p := p) (len := len) (cap := cap) w rfl
  go_enter Tryz.func46, Tryz.ntmps46
  go_wp2_with (first
    | ((with_reducible refine wpList_load6 (.tmp 2) w.heap.size (by assumption) ?_ ?_ ?_ ?_); rfl; rfl; rfl)
    | ((with_reducible refine wpList_load6g (.tmp 5) (w.heap.size + 1) (by assumption) ?_ ?_ ?_ ?_); rfl; rfl; rfl)
    | (go_at_call 47; (with_reducible refine (kindOfAt 3 b n t x _ 97 rfl _).mono ?_); rintro e w2 ⟨rfl, hb2⟩; have k2 := l0.below hb2; have m2 := l1.below hb2; have b2 := below_any b0 hb2 (by have := l0.lt; omega); have z2 : w.heap.size ≤ w2.heap.size := by have := k2.lt; omega
       clear l0 l1 l00 hb2 b0
       have c3 := k2.c3)
    | (simp only [ta97_113, ta97_91, ta97_93, ta97_94, ta97_95, ta97_97, ta97_98, ta97_99, ta97_100, ta97_102, ta97_103, Result.andThen_ok])
    | (go_at_call 56; (with_reducible refine (chkAs t _ h _ (hG.below b2) hs).mono ?_); rintro e w3 ⟨rfl, hb3⟩; have b3 := below_any b2 hb3 z2; have m3 := m2.below hb3; have e3 := m3.c3; have f3 := m3.free 3; have m4 := m3.set3 ⟨#[]⟩; have z3 : w.heap.size ≤ w3.heap.size := (by have := m3.lt; omega); have b9 := below_set (o := 3) b3 none (.string ⟨#[]⟩) (show w.heap.size ≤ w.heap.size + 1 by omega) z3))
  go_ret
  exact ⟨rfl, b9⟩
set_option maxRecDepth 4000 in
set_option maxHeartbeats 1600000 in
theorem mayIriYes (b : Bool) (n : Int) (t x : ByteArray) (p : Option Addr) (len cap : Nat) (d : Int) (w : World) (hs : t.size ≤ maxLen) (h : addrP t = true) :
    Calls Tryz.prog 46 #[.agg #[.int .i64 8, .bool b, .int .i64 n, .string t, .string x, .slice p len cap], .int .i64 d] w fun e w' => e = .returned (.bool (bareP b n ⟨#[]⟩ x len)) ∧ Below w.heap.size w w' := by
  have l0 : Six ((w.alloc (.cells #[.int .i64 8, .bool b, .int .i64 n, .string t, .string x, .slice p len cap] 31)).alloc (.cells #[.int .i64 8, .bool b, .int .i64 n, .string t, .string x, .slice p len cap] 31)) w.heap.size 8 b n t x p len cap := (six_new w rfl).alloc _
  have l1 : Six ((w.alloc (.cells #[.int .i64 8, .bool b, .int .i64 n, .string t, .string x, .slice p len cap] 31)).alloc (.cells #[.int .i64 8, .bool b, .int .i64 n, .string t, .string x, .slice p len cap] 31)) (w.heap.size + 1) 8 b n t x p len cap := six_new _ (by simp)
  have b0 := below2 w (.cells #[.int .i64 8, .bool b, .int .i64 n, .string t, .string x, .slice p len cap] 31) (.cells #[.int .i64 8, .bool b, .int .i64 n, .string t, .string x, .slice p len cap] 31)
  have l00 := six_new (k := 8) (b := b) (n := n) (t := t) (x := x) (p := p) (len := len) (cap := cap) w rfl
  go_enter Tryz.func46, Tryz.ntmps46
  go_wp2_with (first
    | ((with_reducible refine wpList_load6 (.tmp 2) w.heap.size (by assumption) ?_ ?_ ?_ ?_); rfl; rfl; rfl)
    | ((with_reducible refine wpList_load6g (.tmp 5) (w.heap.size + 1) (by assumption) ?_ ?_ ?_ ?_); rfl; rfl; rfl)
    | (go_at_call 47; (with_reducible refine (kindOfAt 8 b n t x _ 99 rfl _).mono ?_); rintro e w2 ⟨rfl, hb2⟩; have k2 := l0.below hb2; have m2 := l1.below hb2; have b2 := below_any b0 hb2 (by have := l0.lt; omega); have z2 : w.heap.size ≤ w2.heap.size := by have := k2.lt; omega
       clear l0 l1 l00 hb2 b0
       have c3 := k2.c3)
    | (simp only [ta99_113, ta99_91, ta99_93, ta99_94, ta99_95, ta99_97, ta99_98, ta99_99, ta99_100, ta99_102, ta99_103, Result.andThen_ok])
    | (go_at_call 57; (with_reducible refine (addrAs t _ h _ hs).mono ?_); rintro e w3 ⟨rfl, hb3⟩; have b3 := below_any b2 hb3 z2; have m3 := m2.below hb3; have e3 := m3.c3; have f3 := m3.free 3; have m4 := m3.set3 ⟨#[]⟩; have z3 : w.heap.size ≤ w3.heap.size := (by have := m3.lt; omega); have b4 := below_set (o := 3) b3 none (.string ⟨#[]⟩) (show w.heap.size ≤ w.heap.size + 1 by omega) z3; have z4 : w.heap.size ≤ (w3.setCell ⟨w.heap.size + 1, 3, none⟩ (.string ⟨#[]⟩)).heap.size := by simpa [World.setCell] using z3)
    | (go_at_call 60; (with_reducible refine (isBareAt 8 _ _ _ _ _ _ _ _).mono ?_); rintro e w9 ⟨rfl, hb9⟩; have b9 := below_any b4 hb9 z4))
  go_ret
  exact ⟨rfl, b9⟩
set_option maxRecDepth 4000 in
set_option maxHeartbeats 1600000 in
theorem mayIriNo (b : Bool) (n : Int) (t x : ByteArray) (p : Option Addr) (len cap : Nat) (d : Int) (w : World) (hs : t.size ≤ maxLen) (h : addrP t = false) :
    Calls Tryz.prog 46 #[.agg #[.int .i64 8, .bool b, .int .i64 n, .string t, .string x, .slice p len cap], .int .i64 d] w fun e w' => e = .returned (.bool (false)) ∧ Below w.heap.size w w' := by
  have l0 : Six ((w.alloc (.cells #[.int .i64 8, .bool b, .int .i64 n, .string t, .string x, .slice p len cap] 31)).alloc (.cells #[.int .i64 8, .bool b, .int .i64 n, .string t, .string x, .slice p len cap] 31)) w.heap.size 8 b n t x p len cap := (six_new w rfl).alloc _
  have l1 : Six ((w.alloc (.cells #[.int .i64 8, .bool b, .int .i64 n, .string t, .string x, .slice p len cap] 31)).alloc (.cells #[.int .i64 8, .bool b, .int .i64 n, .string t, .string x, .slice p len cap] 31)) (w.heap.size + 1) 8 b n t x p len cap := six_new _ (by simp)
  have b0 := below2 w (.cells #[.int .i64 8, .bool b, .int .i64 n, .string t, .string x, .slice p len cap] 31) (.cells #[.int .i64 8, .bool b, .int .i64 n, .string t, .string x, .slice p len cap] 31)
  have l00 := six_new (k := 8) (b := b) (n := n) (t := t) (x := x) (p := p) (len := len) (cap := cap) w rfl
  go_enter Tryz.func46, Tryz.ntmps46
  go_wp2_with (first
    | ((with_reducible refine wpList_load6 (.tmp 2) w.heap.size (by assumption) ?_ ?_ ?_ ?_); rfl; rfl; rfl)
    | ((with_reducible refine wpList_load6g (.tmp 5) (w.heap.size + 1) (by assumption) ?_ ?_ ?_ ?_); rfl; rfl; rfl)
    | (go_at_call 47; (with_reducible refine (kindOfAt 8 b n t x _ 99 rfl _).mono ?_); rintro e w2 ⟨rfl, hb2⟩; have k2 := l0.below hb2; have m2 := l1.below hb2; have b2 := below_any b0 hb2 (by have := l0.lt; omega); have z2 : w.heap.size ≤ w2.heap.size := by have := k2.lt; omega
       clear l0 l1 l00 hb2 b0
       have c3 := k2.c3)
    | (simp only [ta99_113, ta99_91, ta99_93, ta99_94, ta99_95, ta99_97, ta99_98, ta99_99, ta99_100, ta99_102, ta99_103, Result.andThen_ok])
    | (go_at_call 57; (with_reducible refine (addrAs t _ h _ hs).mono ?_); rintro e w3 ⟨rfl, hb3⟩; have b3 := below_any b2 hb3 z2; have m3 := m2.below hb3; have e3 := m3.c3; have f3 := m3.free 3; have m4 := m3.set3 ⟨#[]⟩; have z3 : w.heap.size ≤ w3.heap.size := (by have := m3.lt; omega); have b9 := below_set (o := 3) b3 none (.string ⟨#[]⟩) (show w.heap.size ≤ w.heap.size + 1 by omega) z3))
  go_ret
  exact ⟨rfl, b9⟩
set_option maxRecDepth 4000 in
set_option maxHeartbeats 1600000 in
theorem mayBlankYes (b : Bool) (n : Int) (t x : ByteArray) (p : Option Addr) (len cap : Nat) (d : Int) (w : World) (hs : t.size ≤ maxLen) (h : nameP t = true) :
    Calls Tryz.prog 46 #[.agg #[.int .i64 9, .bool b, .int .i64 n, .string t, .string x, .slice p len cap], .int .i64 d] w fun e w' => e = .returned (.bool (bareP b n ⟨#[]⟩ x len)) ∧ Below w.heap.size w w' := by
  have l0 : Six ((w.alloc (.cells #[.int .i64 9, .bool b, .int .i64 n, .string t, .string x, .slice p len cap] 31)).alloc (.cells #[.int .i64 9, .bool b, .int .i64 n, .string t, .string x, .slice p len cap] 31)) w.heap.size 9 b n t x p len cap := (six_new w rfl).alloc _
  have l1 : Six ((w.alloc (.cells #[.int .i64 9, .bool b, .int .i64 n, .string t, .string x, .slice p len cap] 31)).alloc (.cells #[.int .i64 9, .bool b, .int .i64 n, .string t, .string x, .slice p len cap] 31)) (w.heap.size + 1) 9 b n t x p len cap := six_new _ (by simp)
  have b0 := below2 w (.cells #[.int .i64 9, .bool b, .int .i64 n, .string t, .string x, .slice p len cap] 31) (.cells #[.int .i64 9, .bool b, .int .i64 n, .string t, .string x, .slice p len cap] 31)
  have l00 := six_new (k := 9) (b := b) (n := n) (t := t) (x := x) (p := p) (len := len) (cap := cap) w rfl
  go_enter Tryz.func46, Tryz.ntmps46
  go_wp2_with (first
    | ((with_reducible refine wpList_load6 (.tmp 2) w.heap.size (by assumption) ?_ ?_ ?_ ?_); rfl; rfl; rfl)
    | ((with_reducible refine wpList_load6g (.tmp 5) (w.heap.size + 1) (by assumption) ?_ ?_ ?_ ?_); rfl; rfl; rfl)
    | (go_at_call 47; (with_reducible refine (kindOfAt 9 b n t x _ 100 rfl _).mono ?_); rintro e w2 ⟨rfl, hb2⟩; have k2 := l0.below hb2; have m2 := l1.below hb2; have b2 := below_any b0 hb2 (by have := l0.lt; omega); have z2 : w.heap.size ≤ w2.heap.size := by have := k2.lt; omega
       clear l0 l1 l00 hb2 b0
       have c3 := k2.c3)
    | (simp only [ta100_113, ta100_91, ta100_93, ta100_94, ta100_95, ta100_97, ta100_98, ta100_99, ta100_100, ta100_102, ta100_103, Result.andThen_ok])
    | (go_at_call 58; (with_reducible refine (nameAs t _ h _ hs).mono ?_); rintro e w3 ⟨rfl, hb3⟩; have b3 := below_any b2 hb3 z2; have m3 := m2.below hb3; have e3 := m3.c3; have f3 := m3.free 3; have m4 := m3.set3 ⟨#[]⟩; have z3 : w.heap.size ≤ w3.heap.size := (by have := m3.lt; omega); have b4 := below_set (o := 3) b3 none (.string ⟨#[]⟩) (show w.heap.size ≤ w.heap.size + 1 by omega) z3; have z4 : w.heap.size ≤ (w3.setCell ⟨w.heap.size + 1, 3, none⟩ (.string ⟨#[]⟩)).heap.size := by simpa [World.setCell] using z3)
    | (go_at_call 60; (with_reducible refine (isBareAt 9 _ _ _ _ _ _ _ _).mono ?_); rintro e w9 ⟨rfl, hb9⟩; have b9 := below_any b4 hb9 z4))
  go_ret
  exact ⟨rfl, b9⟩
set_option maxRecDepth 4000 in
set_option maxHeartbeats 1600000 in
theorem mayBlankNo (b : Bool) (n : Int) (t x : ByteArray) (p : Option Addr) (len cap : Nat) (d : Int) (w : World) (hs : t.size ≤ maxLen) (h : nameP t = false) :
    Calls Tryz.prog 46 #[.agg #[.int .i64 9, .bool b, .int .i64 n, .string t, .string x, .slice p len cap], .int .i64 d] w fun e w' => e = .returned (.bool (false)) ∧ Below w.heap.size w w' := by
  have l0 : Six ((w.alloc (.cells #[.int .i64 9, .bool b, .int .i64 n, .string t, .string x, .slice p len cap] 31)).alloc (.cells #[.int .i64 9, .bool b, .int .i64 n, .string t, .string x, .slice p len cap] 31)) w.heap.size 9 b n t x p len cap := (six_new w rfl).alloc _
  have l1 : Six ((w.alloc (.cells #[.int .i64 9, .bool b, .int .i64 n, .string t, .string x, .slice p len cap] 31)).alloc (.cells #[.int .i64 9, .bool b, .int .i64 n, .string t, .string x, .slice p len cap] 31)) (w.heap.size + 1) 9 b n t x p len cap := six_new _ (by simp)
  have b0 := below2 w (.cells #[.int .i64 9, .bool b, .int .i64 n, .string t, .string x, .slice p len cap] 31) (.cells #[.int .i64 9, .bool b, .int .i64 n, .string t, .string x, .slice p len cap] 31)
  have l00 := six_new (k := 9) (b := b) (n := n) (t := t) (x := x) (p := p) (len := len) (cap := cap) w rfl
  go_enter Tryz.func46, Tryz.ntmps46
  go_wp2_with (first
    | ((with_reducible refine wpList_load6 (.tmp 2) w.heap.size (by assumption) ?_ ?_ ?_ ?_); rfl; rfl; rfl)
    | ((with_reducible refine wpList_load6g (.tmp 5) (w.heap.size + 1) (by assumption) ?_ ?_ ?_ ?_); rfl; rfl; rfl)
    | (go_at_call 47; (with_reducible refine (kindOfAt 9 b n t x _ 100 rfl _).mono ?_); rintro e w2 ⟨rfl, hb2⟩; have k2 := l0.below hb2; have m2 := l1.below hb2; have b2 := below_any b0 hb2 (by have := l0.lt; omega); have z2 : w.heap.size ≤ w2.heap.size := by have := k2.lt; omega
       clear l0 l1 l00 hb2 b0
       have c3 := k2.c3)
    | (simp only [ta100_113, ta100_91, ta100_93, ta100_94, ta100_95, ta100_97, ta100_98, ta100_99, ta100_100, ta100_102, ta100_103, Result.andThen_ok])
    | (go_at_call 58; (with_reducible refine (nameAs t _ h _ hs).mono ?_); rintro e w3 ⟨rfl, hb3⟩; have b3 := below_any b2 hb3 z2; have m3 := m2.below hb3; have e3 := m3.c3; have f3 := m3.free 3; have m4 := m3.set3 ⟨#[]⟩; have z3 : w.heap.size ≤ w3.heap.size := (by have := m3.lt; omega); have b9 := below_set (o := 3) b3 none (.string ⟨#[]⟩) (show w.heap.size ≤ w.heap.size + 1 by omega) z3))
  go_ret
  exact ⟨rfl, b9⟩
end Go.Proofs.YtffbcccbhofbpaaGreatDoor

/- Whether a value may be: lists, and what is of no kind. -/
namespace Go.Proofs.YtffbcccbhofbpaaGreatDoor
open Go.RowKit

set_option maxRecDepth 4000 in
set_option maxHeartbeats 1600000 in
theorem mayListYes (b : Bool) (n : Int) (t x : ByteArray) (p : Option Addr) (len cap : Nat) (d : Int) (w : World) (d0 : 0 ≤ d) (d1 : d ≤ 1000) (hc : ∀ W, Below w.heap.size w W → Calls Tryz.prog 59 #[.slice p len cap, .int .i64 (d + 1)] W fun e w' => e = .returned (.bool true) ∧ Below W.heap.size W w') :
    Calls Tryz.prog 46 #[.agg #[.int .i64 5, .bool b, .int .i64 n, .string t, .string x, .slice p len cap], .int .i64 d] w fun e w' => e = .returned (.bool (bareP b n t x 0)) ∧ Below w.heap.size w w' := by
  have l0 : Six ((w.alloc (.cells #[.int .i64 5, .bool b, .int .i64 n, .string t, .string x, .slice p len cap] 31)).alloc (.cells #[.int .i64 5, .bool b, .int .i64 n, .string t, .string x, .slice p len cap] 31)) w.heap.size 5 b n t x p len cap := (six_new w rfl).alloc _
  have l1 : Six ((w.alloc (.cells #[.int .i64 5, .bool b, .int .i64 n, .string t, .string x, .slice p len cap] 31)).alloc (.cells #[.int .i64 5, .bool b, .int .i64 n, .string t, .string x, .slice p len cap] 31)) (w.heap.size + 1) 5 b n t x p len cap := six_new _ (by simp)
  have b0 := below2 w (.cells #[.int .i64 5, .bool b, .int .i64 n, .string t, .string x, .slice p len cap] 31) (.cells #[.int .i64 5, .bool b, .int .i64 n, .string t, .string x, .slice p len cap] 31)
  have l00 := six_new (k := 5) (b := b) (n := n) (t := t) (x := x) (p := p) (len := len) (cap := cap) w rfl
  go_enter Tryz.func46, Tryz.ntmps46
  go_wp2_with (first
    | ((with_reducible refine wpList_load6 (.tmp 2) w.heap.size (by assumption) ?_ ?_ ?_ ?_); rfl; rfl; rfl)
    | ((with_reducible refine wpList_load6g (.tmp 5) (w.heap.size + 1) (by assumption) ?_ ?_ ?_ ?_); rfl; rfl; rfl)
    | (go_at_call 47; (with_reducible refine (kindOfAt 5 b n t x _ 103 rfl _).mono ?_); rintro e w2 ⟨rfl, hb2⟩; have k2 := l0.below hb2; have m2 := l1.below hb2; have b2 := below_any b0 hb2 (by have := l0.lt; omega); have z2 : w.heap.size ≤ w2.heap.size := by have := k2.lt; omega
       clear l0 l1 l00 hb2 b0
       have c5 := k2.c5; have e1 : IntKind.i64.wrap (d + 1) = d + 1 := IntWalk.i64_in _ (by omega))
    | (simp only [ta103_113, ta103_91, ta103_93, ta103_94, ta103_95, ta103_97, ta103_98, ta103_99, ta103_100, ta103_102, ta103_103, Result.andThen_ok])
    | (go_at_call 59; (with_reducible refine (hc _ b2).mono ?_); rintro e w3 ⟨rfl, hb3⟩; have b3 := below_any b2 hb3 z2; have m3 := m2.below hb3; have e3 := m3.c5; have f3 := m3.free 5; have m4 := m3.set5 none 0 0; have z3 : w.heap.size ≤ w3.heap.size := (by have := m3.lt; omega); have b4 := below_set (o := 5) b3 none (.slice none 0 0) (show w.heap.size ≤ w.heap.size + 1 by omega) z3; have z4 : w.heap.size ≤ (w3.setCell ⟨w.heap.size + 1, 5, none⟩ (.slice none 0 0)).heap.size := by simpa [World.setCell] using z3)
    | (go_at_call 60; (with_reducible refine (isBareAt 5 _ _ _ _ _ _ _ _).mono ?_); rintro e w9 ⟨rfl, hb9⟩; have b9 := below_any b4 hb9 z4))
  go_ret
  exact ⟨rfl, b9⟩
set_option maxRecDepth 4000 in
set_option maxHeartbeats 1600000 in
theorem mayListNo (b : Bool) (n : Int) (t x : ByteArray) (p : Option Addr) (len cap : Nat) (d : Int) (w : World) (d0 : 0 ≤ d) (d1 : d ≤ 1000) (hc : ∀ W, Below w.heap.size w W → Calls Tryz.prog 59 #[.slice p len cap, .int .i64 (d + 1)] W fun e w' => e = .returned (.bool false) ∧ Below W.heap.size W w') :
    Calls Tryz.prog 46 #[.agg #[.int .i64 5, .bool b, .int .i64 n, .string t, .string x, .slice p len cap], .int .i64 d] w fun e w' => e = .returned (.bool (false)) ∧ Below w.heap.size w w' := by
  have l0 : Six ((w.alloc (.cells #[.int .i64 5, .bool b, .int .i64 n, .string t, .string x, .slice p len cap] 31)).alloc (.cells #[.int .i64 5, .bool b, .int .i64 n, .string t, .string x, .slice p len cap] 31)) w.heap.size 5 b n t x p len cap := (six_new w rfl).alloc _
  have l1 : Six ((w.alloc (.cells #[.int .i64 5, .bool b, .int .i64 n, .string t, .string x, .slice p len cap] 31)).alloc (.cells #[.int .i64 5, .bool b, .int .i64 n, .string t, .string x, .slice p len cap] 31)) (w.heap.size + 1) 5 b n t x p len cap := six_new _ (by simp)
  have b0 := below2 w (.cells #[.int .i64 5, .bool b, .int .i64 n, .string t, .string x, .slice p len cap] 31) (.cells #[.int .i64 5, .bool b, .int .i64 n, .string t, .string x, .slice p len cap] 31)
  have l00 := six_new (k := 5) (b := b) (n := n) (t := t) (x := x) (p := p) (len := len) (cap := cap) w rfl
  go_enter Tryz.func46, Tryz.ntmps46
  go_wp2_with (first
    | ((with_reducible refine wpList_load6 (.tmp 2) w.heap.size (by assumption) ?_ ?_ ?_ ?_); rfl; rfl; rfl)
    | ((with_reducible refine wpList_load6g (.tmp 5) (w.heap.size + 1) (by assumption) ?_ ?_ ?_ ?_); rfl; rfl; rfl)
    | (go_at_call 47; (with_reducible refine (kindOfAt 5 b n t x _ 103 rfl _).mono ?_); rintro e w2 ⟨rfl, hb2⟩; have k2 := l0.below hb2; have m2 := l1.below hb2; have b2 := below_any b0 hb2 (by have := l0.lt; omega); have z2 : w.heap.size ≤ w2.heap.size := by have := k2.lt; omega
       clear l0 l1 l00 hb2 b0
       have c5 := k2.c5; have e1 : IntKind.i64.wrap (d + 1) = d + 1 := IntWalk.i64_in _ (by omega))
    | (simp only [ta103_113, ta103_91, ta103_93, ta103_94, ta103_95, ta103_97, ta103_98, ta103_99, ta103_100, ta103_102, ta103_103, Result.andThen_ok])
    | (go_at_call 59; (with_reducible refine (hc _ b2).mono ?_); rintro e w3 ⟨rfl, hb3⟩; have b3 := below_any b2 hb3 z2; have m3 := m2.below hb3; have e3 := m3.c5; have f3 := m3.free 5; have m4 := m3.set5 none 0 0; have z3 : w.heap.size ≤ w3.heap.size := (by have := m3.lt; omega); have b4 := below_set (o := 5) b3 none (.slice none 0 0) (show w.heap.size ≤ w.heap.size + 1 by omega) z3; have z4 : w.heap.size ≤ (w3.setCell ⟨w.heap.size + 1, 5, none⟩ (.slice none 0 0)).heap.size := by simpa [World.setCell] using z3))
  go_ret
  exact ⟨rfl, b4⟩
set_option maxRecDepth 4000 in
set_option maxHeartbeats 1600000 in
theorem mayStranger (k : Int) (b : Bool) (n : Int) (t x : ByteArray) (p : Option Addr) (len cap : Nat) (d : Int) (w : World) (hk : kindT k = 115) :
    Calls Tryz.prog 46 #[.agg #[.int .i64 k, .bool b, .int .i64 n, .string t, .string x, .slice p len cap], .int .i64 d] w fun e w' => e = .returned (.bool (false)) ∧ Below w.heap.size w w' := by
  have l0 : Six ((w.alloc (.cells #[.int .i64 k, .bool b, .int .i64 n, .string t, .string x, .slice p len cap] 31)).alloc (.cells #[.int .i64 k, .bool b, .int .i64 n, .string t, .string x, .slice p len cap] 31)) w.heap.size k b n t x p len cap := (six_new w rfl).alloc _
  have l1 : Six ((w.alloc (.cells #[.int .i64 k, .bool b, .int .i64 n, .string t, .string x, .slice p len cap] 31)).alloc (.cells #[.int .i64 k, .bool b, .int .i64 n, .string t, .string x, .slice p len cap] 31)) (w.heap.size + 1) k b n t x p len cap := six_new _ (by simp)
  have b0 := below2 w (.cells #[.int .i64 k, .bool b, .int .i64 n, .string t, .string x, .slice p len cap] 31) (.cells #[.int .i64 k, .bool b, .int .i64 n, .string t, .string x, .slice p len cap] 31)
  have l00 := six_new (k := k) (b := b) (n := n) (t := t) (x := x) (p := p) (len := len) (cap := cap) w rfl
  go_enter Tryz.func46, Tryz.ntmps46
  go_wp2_with (first
    | ((with_reducible refine wpList_load6 (.tmp 2) w.heap.size (by assumption) ?_ ?_ ?_ ?_); rfl; rfl; rfl)
    | ((with_reducible refine wpList_load6g (.tmp 5) (w.heap.size + 1) (by assumption) ?_ ?_ ?_ ?_); rfl; rfl; rfl)
    | (go_at_call 47; (with_reducible refine (kindOfAt k b n t x _ 115 hk.symm _).mono ?_); rintro e w2 ⟨rfl, hb2⟩; have k2 := l0.below hb2; have m2 := l1.below hb2; have b2 := below_any b0 hb2 (by have := l0.lt; omega); have z2 : w.heap.size ≤ w2.heap.size := by have := k2.lt; omega
       clear l0 l1 l00 hb2 b0
       skip)
    | (simp only [ta115_113, ta115_91, ta115_93, ta115_94, ta115_95, ta115_97, ta115_98, ta115_99, ta115_100, ta115_102, ta115_103, Result.andThen_ok]))
  go_ret
  exact ⟨rfl, b2⟩
end Go.Proofs.YtffbcccbhofbpaaGreatDoor
