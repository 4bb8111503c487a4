/- Texts of one kind, one behind the other: each says ahead of itself what it shows. -/
import Derived.Test.YtoifjjgakblhhaaGreatDoorHab
import Derived.Test.YtoifjjgakblhhaaGreatDoorHac
/- Whether a value may be: the kinds one by one. -/
namespace Go.Proofs.YtoifjjgakblhhaaGreatDoor
open Go.RowKit

set_option maxRecDepth 4000 in
set_option maxHeartbeats 1600000 in
theorem mayNull (b : Bool) (n : Int) (t x : ByteArray) (p : Option Addr) (len cap : Nat) (d : Int) (w : World) :
    Calls Tryz.prog 38 #[.agg #[.int .i64 0, .bool b, .int .i64 n, .string t, .string x, .slice p len cap], .int .i64 d] w fun e w' => e = .returned (.bool (bareP b n t x len)) ∧ Below w.heap.size w w' := by
  have l0 : Six ((w.alloc (.cells #[.int .i64 0, .bool b, .int .i64 n, .string t, .string x, .slice p len cap] 28)).alloc (.cells #[.int .i64 0, .bool b, .int .i64 n, .string t, .string x, .slice p len cap] 28)) w.heap.size 0 b n t x p len cap := (six_new w rfl).alloc _
  have l1 : Six ((w.alloc (.cells #[.int .i64 0, .bool b, .int .i64 n, .string t, .string x, .slice p len cap] 28)).alloc (.cells #[.int .i64 0, .bool b, .int .i64 n, .string t, .string x, .slice p len cap] 28)) (w.heap.size + 1) 0 b n t x p len cap := six_new _ (by simp)
  have b0 := below2 w (.cells #[.int .i64 0, .bool b, .int .i64 n, .string t, .string x, .slice p len cap] 28) (.cells #[.int .i64 0, .bool b, .int .i64 n, .string t, .string x, .slice p len cap] 28)
  have l00 := six_new (k := 0) (b := b) (n := n) (t := t) (x := x) (p := p) (len := len) (cap := cap) w rfl
  go_enter Tryz.func38, Tryz.ntmps38
  go_wp2_with (first
    | ((with_reducible refine wpList_load6 (.tmp 2) w.heap.size (by assumption) ?_ ?_ ?_ ?_); rfl; rfl; rfl)
    | ((with_reducible refine wpList_load6g (.tmp 5) (w.heap.size + 1) (by assumption) ?_ ?_ ?_ ?_); rfl; rfl; rfl)
    | (go_at_call 72; (with_reducible refine (kindOfAt 0 b n t x _ 80 rfl _).mono ?_); rintro e w2 ⟨rfl, hb2⟩; have k2 := l0.below hb2; have m2 := l1.below hb2; have b2 := below_any b0 hb2 (by have := l0.lt; omega); have z2 : w.heap.size ≤ w2.heap.size := by have := k2.lt; omega
       clear l0 l1 l00 hb2 b0
       skip)
    | (simp only [ta80_80, ta80_81, ta80_82, ta80_83, ta80_84, ta80_85, ta80_87, ta80_88, ta80_89, ta80_90, ta80_91, Result.andThen_ok])
    | (go_at_call 77; (with_reducible refine (isBareAt 0 _ _ _ _ _ _ _ _).mono ?_); rintro e w9 ⟨rfl, hb9⟩; have b9 := below_any b2 hb9 z2))
  go_ret
  exact ⟨rfl, b9⟩
set_option maxRecDepth 4000 in
set_option maxHeartbeats 1600000 in
theorem mayTruth (b : Bool) (n : Int) (t x : ByteArray) (p : Option Addr) (len cap : Nat) (d : Int) (w : World) :
    Calls Tryz.prog 38 #[.agg #[.int .i64 1, .bool b, .int .i64 n, .string t, .string x, .slice p len cap], .int .i64 d] w fun e w' => e = .returned (.bool (bareP false n t x len)) ∧ Below w.heap.size w w' := by
  have l0 : Six ((w.alloc (.cells #[.int .i64 1, .bool b, .int .i64 n, .string t, .string x, .slice p len cap] 28)).alloc (.cells #[.int .i64 1, .bool b, .int .i64 n, .string t, .string x, .slice p len cap] 28)) w.heap.size 1 b n t x p len cap := (six_new w rfl).alloc _
  have l1 : Six ((w.alloc (.cells #[.int .i64 1, .bool b, .int .i64 n, .string t, .string x, .slice p len cap] 28)).alloc (.cells #[.int .i64 1, .bool b, .int .i64 n, .string t, .string x, .slice p len cap] 28)) (w.heap.size + 1) 1 b n t x p len cap := six_new _ (by simp)
  have b0 := below2 w (.cells #[.int .i64 1, .bool b, .int .i64 n, .string t, .string x, .slice p len cap] 28) (.cells #[.int .i64 1, .bool b, .int .i64 n, .string t, .string x, .slice p len cap] 28)
  have l00 := six_new (k := 1) (b := b) (n := n) (t := t) (x := x) (p := p) (len := len) (cap := cap) w rfl
  go_enter Tryz.func38, Tryz.ntmps38
  go_wp2_with (first
    | ((with_reducible refine wpList_load6 (.tmp 2) w.heap.size (by assumption) ?_ ?_ ?_ ?_); rfl; rfl; rfl)
    | ((with_reducible refine wpList_load6g (.tmp 5) (w.heap.size + 1) (by assumption) ?_ ?_ ?_ ?_); rfl; rfl; rfl)
    | (go_at_call 72; (with_reducible refine (kindOfAt 1 b n t x _ 81 rfl _).mono ?_); rintro e w2 ⟨rfl, hb2⟩; have k2 := l0.below hb2; have m2 := l1.below hb2; have b2 := below_any b0 hb2 (by have := l0.lt; omega); have z2 : w.heap.size ≤ w2.heap.size := by have := k2.lt; omega
       clear l0 l1 l00 hb2 b0
       have c1 := m2.c1; have f1 := m2.free 1; have m3 := m2.set1 false; have b3 := below_set (o := 1) b2 none (.bool false) (show w.heap.size ≤ w.heap.size + 1 by omega) z2; have z3 : w.heap.size ≤ (w2.setCell ⟨w.heap.size + 1, 1, none⟩ (.bool false)).heap.size := by simpa [World.setCell] using z2)
    | (simp only [ta81_80, ta81_81, ta81_82, ta81_83, ta81_84, ta81_85, ta81_87, ta81_88, ta81_89, ta81_90, ta81_91, Result.andThen_ok])
    | (go_at_call 77; (with_reducible refine (isBareAt 1 _ _ _ _ _ _ _ _).mono ?_); rintro e w9 ⟨rfl, hb9⟩; have b9 := below_any b3 hb9 z3))
  go_ret
  exact ⟨rfl, b9⟩
set_option maxRecDepth 4000 in
set_option maxHeartbeats 1600000 in
theorem mayWhole (b : Bool) (n : Int) (t x : ByteArray) (p : Option Addr) (len cap : Nat) (d : Int) (w : World) :
    Calls Tryz.prog 38 #[.agg #[.int .i64 2, .bool b, .int .i64 n, .string t, .string x, .slice p len cap], .int .i64 d] w fun e w' => e = .returned (.bool (bareP b 0 t x len)) ∧ Below w.heap.size w w' := by
  have l0 : Six ((w.alloc (.cells #[.int .i64 2, .bool b, .int .i64 n, .string t, .string x, .slice p len cap] 28)).alloc (.cells #[.int .i64 2, .bool b, .int .i64 n, .string t, .string x, .slice p len cap] 28)) w.heap.size 2 b n t x p len cap := (six_new w rfl).alloc _
  have l1 : Six ((w.alloc (.cells #[.int .i64 2, .bool b, .int .i64 n, .string t, .string x, .slice p len cap] 28)).alloc (.cells #[.int .i64 2, .bool b, .int .i64 n, .string t, .string x, .slice p len cap] 28)) (w.heap.size + 1) 2 b n t x p len cap := six_new _ (by simp)
  have b0 := below2 w (.cells #[.int .i64 2, .bool b, .int .i64 n, .string t, .string x, .slice p len cap] 28) (.cells #[.int .i64 2, .bool b, .int .i64 n, .string t, .string x, .slice p len cap] 28)
  have l00 := six_new (k := 2) (b := b) (n := n) (t := t) (x := x) (p := p) (len := len) (cap := cap) w rfl
  go_enter Tryz.func38, Tryz.ntmps38
  go_wp2_with (first
    | ((with_reducible refine wpList_load6 (.tmp 2) w.heap.size (by assumption) ?_ ?_ ?_ ?_); rfl; rfl; rfl)
    | ((with_reducible refine wpList_load6g (.tmp 5) (w.heap.size + 1) (by assumption) ?_ ?_ ?_ ?_); rfl; rfl; rfl)
    | (go_at_call 72; (with_reducible refine (kindOfAt 2 b n t x _ 82 rfl _).mono ?_); rintro e w2 ⟨rfl, hb2⟩; have k2 := l0.below hb2; have m2 := l1.below hb2; have b2 := below_any b0 hb2 (by have := l0.lt; omega); have z2 : w.heap.size ≤ w2.heap.size := by have := k2.lt; omega
       clear l0 l1 l00 hb2 b0
       have c1 := m2.c2; have f1 := m2.free 2; have m3 := m2.set2 0; have b3 := below_set (o := 2) b2 none (.int .i64 0) (show w.heap.size ≤ w.heap.size + 1 by omega) z2; have z3 : w.heap.size ≤ (w2.setCell ⟨w.heap.size + 1, 2, none⟩ (.int .i64 0)).heap.size := by simpa [World.setCell] using z2)
    | (simp only [ta82_80, ta82_81, ta82_82, ta82_83, ta82_84, ta82_85, ta82_87, ta82_88, ta82_89, ta82_90, ta82_91, Result.andThen_ok])
    | (go_at_call 77; (with_reducible refine (isBareAt 2 _ _ _ _ _ _ _ _).mono ?_); rintro e w9 ⟨rfl, hb9⟩; have b9 := below_any b3 hb9 z3))
  go_ret
  exact ⟨rfl, b9⟩
theorem chkAs (s : ByteArray) (r : Bool) (h : chk s.data.toList = r) (w : World) (hG : Gd w) (hs : s.size < 4294967281) : Calls Tryz.prog 73 #[.string s] w fun e w' => e = .returned (.bool r) ∧ Below w.heap.size w w' := by
  subst h
  exact checkAt s w hG hs
theorem addrAs (s : ByteArray) (r : Bool) (h : addrP s = r) (w : World) (hs : s.size ≤ maxLen) : Calls Tryz.prog 74 #[.string s] w fun e w' => e = .returned (.bool r) ∧ Below w.heap.size w w' := by
  subst h
  exact (isAddressAt s w hs).mono fun _ _ ⟨h, k⟩ => ⟨h, k ▸ Below.refl _ _⟩
theorem nameAs (s : ByteArray) (r : Bool) (h : nameP s = r) (w : World) (hs : s.size ≤ maxLen) : Calls Tryz.prog 75 #[.string s] w fun e w' => e = .returned (.bool r) ∧ Below w.heap.size w w' := by
  subst h
  exact (isNameAt s w hs).mono fun _ _ ⟨h, k⟩ => ⟨h, k ▸ Below.refl _ _⟩

set_option maxRecDepth 4000 in
set_option maxHeartbeats 1600000 in
theorem mayExactYes (b : Bool) (n : Int) (t x : ByteArray) (p : Option Addr) (len cap : Nat) (d : Int) (w : World) (hG : Gd w) (hs : t.size < 4294967281) (h : chk t.data.toList = true) :
    Calls Tryz.prog 38 #[.agg #[.int .i64 3, .bool b, .int .i64 n, .string t, .string x, .slice p len cap], .int .i64 d] w fun e w' => e = .returned (.bool (bareP b n ⟨#[]⟩ x len)) ∧ Below w.heap.size w w' := by
  have l0 : Six ((w.alloc (.cells #[.int .i64 3, .bool b, .int .i64 n, .string t, .string x, .slice p len cap] 28)).alloc (.cells #[.int .i64 3, .bool b, .int .i64 n, .string t, .string x, .slice p len cap] 28)) w.heap.size 3 b n t x p len cap := (six_new w rfl).alloc _
  have l1 : Six ((w.alloc (.cells #[.int .i64 3, .bool b, .int .i64 n, .string t, .string x, .slice p len cap] 28)).alloc (.cells #[.int .i64 3, .bool b, .int .i64 n, .string t, .string x, .slice p len cap] 28)) (w.heap.size + 1) 3 b n t x p len cap := six_new _ (by simp)
  have b0 := below2 w (.cells #[.int .i64 3, .bool b, .int .i64 n, .string t, .string x, .slice p len cap] 28) (.cells #[.int .i64 3, .bool b, .int .i64 n, .string t, .string x, .slice p len cap] 28)
  have l00 := six_new (k := 3) (b := b) (n := n) (t := t) (x := x) (p := p) (len := len) (cap := cap) w rfl
  go_enter Tryz.func38, Tryz.ntmps38
  go_wp2_with (first
    | ((with_reducible refine wpList_load6 (.tmp 2) w.heap.size (by assumption) ?_ ?_ ?_ ?_); rfl; rfl; rfl)
    | ((with_reducible refine wpList_load6g (.tmp 5) (w.heap.size + 1) (by assumption) ?_ ?_ ?_ ?_); rfl; rfl; rfl)
    | (go_at_call 72; (with_reducible refine (kindOfAt 3 b n t x _ 85 rfl _).mono ?_); rintro e w2 ⟨rfl, hb2⟩; have k2 := l0.below hb2; have m2 := l1.below hb2; have b2 := below_any b0 hb2 (by have := l0.lt; omega); have z2 : w.heap.size ≤ w2.heap.size := by have := k2.lt; omega
       clear l0 l1 l00 hb2 b0
       have c3 := k2.c3)
    | (simp only [ta85_80, ta85_81, ta85_82, ta85_83, ta85_84, ta85_85, ta85_87, ta85_88, ta85_89, ta85_90, ta85_91, Result.andThen_ok])
    | (go_at_call 73; (with_reducible refine (chkAs t _ h _ (hG.below b2) hs).mono ?_); rintro e w3 ⟨rfl, hb3⟩; have b3 := below_any b2 hb3 z2; have m3 := m2.below hb3; have e3 := m3.c3; have f3 := m3.free 3; have m4 := m3.set3 ⟨#[]⟩; have z3 : w.heap.size ≤ w3.heap.size := (by have := m3.lt; omega); have b4 := below_set (o := 3) b3 none (.string ⟨#[]⟩) (show w.heap.size ≤ w.heap.size + 1 by omega) z3; have z4 : w.heap.size ≤ (w3.setCell ⟨w.heap.size + 1, 3, none⟩ (.string ⟨#[]⟩)).heap.size := by simpa [World.setCell] using z3)
    | (go_at_call 77; (with_reducible refine (isBareAt 3 _ _ _ _ _ _ _ _).mono ?_); rintro e w9 ⟨rfl, hb9⟩; have b9 := below_any b4 hb9 z4))
  go_ret
  exact ⟨rfl, b9⟩
set_option maxRecDepth 4000 in
set_option maxHeartbeats 1600000 in
theorem mayExactNo (b : Bool) (n : Int) (t x : ByteArray) (p : Option Addr) (len cap : Nat) (d : Int) (w : World) (hG : Gd w) (hs : t.size < 4294967281) (h : chk t.data.toList = false) :
    Calls Tryz.prog 38 #[.agg #[.int .i64 3, .bool b, .int .i64 n, .string t, .string x, .slice p len cap], .int .i64 d] w fun e w' => e = .returned (.bool (false)) ∧ Below w.heap.size w w' := by
  have l0 : Six ((w.alloc (.cells #[.int .i64 3, .bool b, .int .i64 n, .string t, .string x, .slice p len cap] 28)).alloc (.cells #[.int .i64 3, .bool b, .int .i64 n, .string t, .string x, .slice p len cap] 28)) w.heap.size 3 b n t x p len cap := (six_new w rfl).alloc _
  have l1 : Six ((w.alloc (.cells #[.int .i64 3, .bool b, .int .i64 n, .string t, .string x, .slice p len cap] 28)).alloc (.cells #[.int .i64 3, .bool b, .int .i64 n, .string t, .string x, .slice p len cap] 28)) (w.heap.size + 1) 3 b n t x p len cap := six_new _ (by simp)
  have b0 := below2 w (.cells #[.int .i64 3, .bool b, .int .i64 n, .string t, .string x, .slice p len cap] 28) (.cells #[.int .i64 3, .bool b, .int .i64 n, .string t, .string x, .slice p len cap] 28)
  have l00 := six_new (k := 3) (b := b) (n := n) (t := t) (x := x) (p := p) (len := len) (cap := cap) w rfl
  go_enter Tryz.func38, Tryz.ntmps38
  go_wp2_with (first
    | ((with_reducible refine wpList_load6 (.tmp 2) w.heap.size (by assumption) ?_ ?_ ?_ ?_); rfl; rfl; rfl)
    | ((with_reducible refine wpList_load6g (.tmp 5) (w.heap.size + 1) (by assumption) ?_ ?_ ?_ ?_); rfl; rfl; rfl)
    | (go_at_call 72; (with_reducible refine (kindOfAt 3 b n t x _ 85 rfl _).mono ?_); rintro e w2 ⟨rfl, hb2⟩; have k2 := l0.below hb2; have m2 := l1.below hb2; have b2 := below_any b0 hb2 (by have := l0.lt; omega); have z2 : w.heap.size ≤ w2.heap.size := by have := k2.lt; omega
       clear l0 l1 l00 hb2 b0
       have c3 := k2.c3)
    | (simp only [ta85_80, ta85_81, ta85_82, ta85_83, ta85_84, ta85_85, ta85_87, ta85_88, ta85_89, ta85_90, ta85_91, Result.andThen_ok])
    | (go_at_call 73; (with_reducible refine (chkAs t _ h _ (hG.below b2) hs).mono ?_); rintro e w3 ⟨rfl, hb3⟩; have b3 := below_any b2 hb3 z2; have m3 := m2.below hb3; have e3 := m3.c3; have f3 := m3.free 3; have m4 := m3.set3 ⟨#[]⟩; have z3 : w.heap.size ≤ w3.heap.size := (by have := m3.lt; omega); have b9 := below_set (o := 3) b3 none (.string ⟨#[]⟩) (show w.heap.size ≤ w.heap.size + 1 by omega) z3))
  go_ret
  exact ⟨rfl, b9⟩
set_option maxRecDepth 4000 in
set_option maxHeartbeats 1600000 in
theorem mayIriYes (b : Bool) (n : Int) (t x : ByteArray) (p : Option Addr) (len cap : Nat) (d : Int) (w : World) (hs : t.size ≤ maxLen) (h : addrP t = true) :
    Calls Tryz.prog 38 #[.agg #[.int .i64 8, .bool b, .int .i64 n, .string t, .string x, .slice p len cap], .int .i64 d] w fun e w' => e = .returned (.bool (bareP b n ⟨#[]⟩ x len)) ∧ Below w.heap.size w w' := by
  have l0 : Six ((w.alloc (.cells #[.int .i64 8, .bool b, .int .i64 n, .string t, .string x, .slice p len cap] 28)).alloc (.cells #[.int .i64 8, .bool b, .int .i64 n, .string t, .string x, .slice p len cap] 28)) w.heap.size 8 b n t x p len cap := (six_new w rfl).alloc _
  have l1 : Six ((w.alloc (.cells #[.int .i64 8, .bool b, .int .i64 n, .string t, .string x, .slice p len cap] 28)).alloc (.cells #[.int .i64 8, .bool b, .int .i64 n, .string t, .string x, .slice p len cap] 28)) (w.heap.size + 1) 8 b n t x p len cap := six_new _ (by simp)
  have b0 := below2 w (.cells #[.int .i64 8, .bool b, .int .i64 n, .string t, .string x, .slice p len cap] 28) (.cells #[.int .i64 8, .bool b, .int .i64 n, .string t, .string x, .slice p len cap] 28)
  have l00 := six_new (k := 8) (b := b) (n := n) (t := t) (x := x) (p := p) (len := len) (cap := cap) w rfl
  go_enter Tryz.func38, Tryz.ntmps38
  go_wp2_with (first
    | ((with_reducible refine wpList_load6 (.tmp 2) w.heap.size (by assumption) ?_ ?_ ?_ ?_); rfl; rfl; rfl)
    | ((with_reducible refine wpList_load6g (.tmp 5) (w.heap.size + 1) (by assumption) ?_ ?_ ?_ ?_); rfl; rfl; rfl)
    | (go_at_call 72; (with_reducible refine (kindOfAt 8 b n t x _ 88 rfl _).mono ?_); rintro e w2 ⟨rfl, hb2⟩; have k2 := l0.below hb2; have m2 := l1.below hb2; have b2 := below_any b0 hb2 (by have := l0.lt; omega); have z2 : w.heap.size ≤ w2.heap.size := by have := k2.lt; omega
       clear l0 l1 l00 hb2 b0
       have c3 := k2.c3)
    | (simp only [ta88_80, ta88_81, ta88_82, ta88_83, ta88_84, ta88_85, ta88_87, ta88_88, ta88_89, ta88_90, ta88_91, Result.andThen_ok])
    | (go_at_call 74; (with_reducible refine (addrAs t _ h _ hs).mono ?_); rintro e w3 ⟨rfl, hb3⟩; have b3 := below_any b2 hb3 z2; have m3 := m2.below hb3; have e3 := m3.c3; have f3 := m3.free 3; have m4 := m3.set3 ⟨#[]⟩; have z3 : w.heap.size ≤ w3.heap.size := (by have := m3.lt; omega); have b4 := below_set (o := 3) b3 none (.string ⟨#[]⟩) (show w.heap.size ≤ w.heap.size + 1 by omega) z3; have z4 : w.heap.size ≤ (w3.setCell ⟨w.heap.size + 1, 3, none⟩ (.string ⟨#[]⟩)).heap.size := by simpa [World.setCell] using z3)
    | (go_at_call 77; (with_reducible refine (isBareAt 8 _ _ _ _ _ _ _ _).mono ?_); rintro e w9 ⟨rfl, hb9⟩; have b9 := below_any b4 hb9 z4))
  go_ret
  exact ⟨rfl, b9⟩
set_option maxRecDepth 4000 in
set_option maxHeartbeats 1600000 in
theorem mayIriNo (b : Bool) (n : Int) (t x : ByteArray) (p : Option Addr) (len cap : Nat) (d : Int) (w : World) (hs : t.size ≤ maxLen) (h : addrP t = false) :
    Calls Tryz.prog 38 #[.agg #[.int .i64 8, .bool b, .int .i64 n, .string t, .string x, .slice p len cap], .int .i64 d] w fun e w' => e = .returned (.bool (false)) ∧ Below w.heap.size w w' := by
  have l0 : Six ((w.alloc (.cells #[.int .i64 8, .bool b, .int .i64 n, .string t, .string x, .slice p len cap] 28)).alloc (.cells #[.int .i64 8, .bool b, .int .i64 n, .string t, .string x, .slice p len cap] 28)) w.heap.size 8 b n t x p len cap := (six_new w rfl).alloc _
  have l1 : Six ((w.alloc (.cells #[.int .i64 8, .bool b, .int .i64 n, .string t, .string x, .slice p len cap] 28)).alloc (.cells #[.int .i64 8, .bool b, .int .i64 n, .string t, .string x, .slice p len cap] 28)) (w.heap.size + 1) 8 b n t x p len cap := six_new _ (by simp)
  have b0 := below2 w (.cells #[.int .i64 8, .bool b, .int .i64 n, .string t, .string x, .slice p len cap] 28) (.cells #[.int .i64 8, .bool b, .int .i64 n, .string t, .string x, .slice p len cap] 28)
  have l00 := six_new (k := 8) (b := b) (n := n) (t := t) (x := x) (p := p) (len := len) (cap := cap) w rfl
  go_enter Tryz.func38, Tryz.ntmps38
  go_wp2_with (first
    | ((with_reducible refine wpList_load6 (.tmp 2) w.heap.size (by assumption) ?_ ?_ ?_ ?_); rfl; rfl; rfl)
    | ((with_reducible refine wpList_load6g (.tmp 5) (w.heap.size + 1) (by assumption) ?_ ?_ ?_ ?_); rfl; rfl; rfl)
    | (go_at_call 72; (with_reducible refine (kindOfAt 8 b n t x _ 88 rfl _).mono ?_); rintro e w2 ⟨rfl, hb2⟩; have k2 := l0.below hb2; have m2 := l1.below hb2; have b2 := below_any b0 hb2 (by have := l0.lt; omega); have z2 : w.heap.size ≤ w2.heap.size := by have := k2.lt; omega
       clear l0 l1 l00 hb2 b0
       have c3 := k2.c3)
    | (simp only [ta88_80, ta88_81, ta88_82, ta88_83, ta88_84, ta88_85, ta88_87, ta88_88, ta88_89, ta88_90, ta88_91, Result.andThen_ok])
    | (go_at_call 74; (with_reducible refine (addrAs t _ h _ hs).mono ?_); rintro e w3 ⟨rfl, hb3⟩; have b3 := below_any b2 hb3 z2; have m3 := m2.below hb3; have e3 := m3.c3; have f3 := m3.free 3; have m4 := m3.set3 ⟨#[]⟩; have z3 : w.heap.size ≤ w3.heap.size := (by have := m3.lt; omega); have b9 := below_set (o := 3) b3 none (.string ⟨#[]⟩) (show w.heap.size ≤ w.heap.size + 1 by omega) z3))
  go_ret
  exact ⟨rfl, b9⟩
set_option maxRecDepth 4000 in
set_option maxHeartbeats 1600000 in
theorem mayBlankYes (b : Bool) (n : Int) (t x : ByteArray) (p : Option Addr) (len cap : Nat) (d : Int) (w : World) (hs : t.size ≤ maxLen) (h : nameP t = true) :
    Calls Tryz.prog 38 #[.agg #[.int .i64 9, .bool b, .int .i64 n, .string t, .string x, .slice p len cap], .int .i64 d] w fun e w' => e = .returned (.bool (bareP b n ⟨#[]⟩ x len)) ∧ Below w.heap.size w w' := by
  have l0 : Six ((w.alloc (.cells #[.int .i64 9, .bool b, .int .i64 n, .string t, .string x, .slice p len cap] 28)).alloc (.cells #[.int .i64 9, .bool b, .int .i64 n, .string t, .string x, .slice p len cap] 28)) w.heap.size 9 b n t x p len cap := (six_new w rfl).alloc _
  have l1 : Six ((w.alloc (.cells #[.int .i64 9, .bool b, .int .i64 n, .string t, .string x, .slice p len cap] 28)).alloc (.cells #[.int .i64 9, .bool b, .int .i64 n, .string t, .string x, .slice p len cap] 28)) (w.heap.size + 1) 9 b n t x p len cap := six_new _ (by simp)
  have b0 := below2 w (.cells #[.int .i64 9, .bool b, .int .i64 n, .string t, .string x, .slice p len cap] 28) (.cells #[.int .i64 9, .bool b, .int .i64 n, .string t, .string x, .slice p len cap] 28)
  have l00 := six_new (k := 9) (b := b) (n := n) (t := t) (x := x) (p := p) (len := len) (cap := cap) w rfl
  go_enter Tryz.func38, Tryz.ntmps38
  go_wp2_with (first
    | ((with_reducible refine wpList_load6 (.tmp 2) w.heap.size (by assumption) ?_ ?_ ?_ ?_); rfl; rfl; rfl)
    | ((with_reducible refine wpList_load6g (.tmp 5) (w.heap.size + 1) (by assumption) ?_ ?_ ?_ ?_); rfl; rfl; rfl)
    | (go_at_call 72; (with_reducible refine (kindOfAt 9 b n t x _ 89 rfl _).mono ?_); rintro e w2 ⟨rfl, hb2⟩; have k2 := l0.below hb2; have m2 := l1.below hb2; have b2 := below_any b0 hb2 (by have := l0.lt; omega); have z2 : w.heap.size ≤ w2.heap.size := by have := k2.lt; omega
       clear l0 l1 l00 hb2 b0
       have c3 := k2.c3)
    | (simp only [ta89_80, ta89_81, ta89_82, ta89_83, ta89_84, ta89_85, ta89_87, ta89_88, ta89_89, ta89_90, ta89_91, Result.andThen_ok])
    | (go_at_call 75; (with_reducible refine (nameAs t _ h _ hs).mono ?_); rintro e w3 ⟨rfl, hb3⟩; have b3 := below_any b2 hb3 z2; have m3 := m2.below hb3; have e3 := m3.c3; have f3 := m3.free 3; have m4 := m3.set3 ⟨#[]⟩; have z3 : w.heap.size ≤ w3.heap.size := (by have := m3.lt; omega); have b4 := below_set (o := 3) b3 none (.string ⟨#[]⟩) (show w.heap.size ≤ w.heap.size + 1 by omega) z3; have z4 : w.heap.size ≤ (w3.setCell ⟨w.heap.size + 1, 3, none⟩ (.string ⟨#[]⟩)).heap.size := by simpa [World.setCell] using z3)
    | (go_at_call 77; (with_reducible refine (isBareAt 9 _ _ _ _ _ _ _ _).mono ?_); rintro e w9 ⟨rfl, hb9⟩; have b9 := below_any b4 hb9 z4))
  go_ret
  exact ⟨rfl, b9⟩
set_option maxRecDepth 4000 in
set_option maxHeartbeats 1600000 in
theorem mayBlankNo (b : Bool) (n : Int) (t x : ByteArray) (p : Option Addr) (len cap : Nat) (d : Int) (w : World) (hs : t.size ≤ maxLen) (h : nameP t = false) :
    Calls Tryz.prog 38 #[.agg #[.int .i64 9, .bool b, .int .i64 n, .string t, .string x, .slice p len cap], .int .i64 d] w fun e w' => e = .returned (.bool (false)) ∧ Below w.heap.size w w' := by
  have l0 : Six ((w.alloc (.cells #[.int .i64 9, .bool b, .int .i64 n, .string t, .string x, .slice p len cap] 28)).alloc (.cells #[.int .i64 9, .bool b, .int .i64 n, .string t, .string x, .slice p len cap] 28)) w.heap.size 9 b n t x p len cap := (six_new w rfl).alloc _
  have l1 : Six ((w.alloc (.cells #[.int .i64 9, .bool b, .int .i64 n, .string t, .string x, .slice p len cap] 28)).alloc (.cells #[.int .i64 9, .bool b, .int .i64 n, .string t, .string x, .slice p len cap] 28)) (w.heap.size + 1) 9 b n t x p len cap := six_new _ (by simp)
  have b0 := below2 w (.cells #[.int .i64 9, .bool b, .int .i64 n, .string t, .string x, .slice p len cap] 28) (.cells #[.int .i64 9, .bool b, .int .i64 n, .string t, .string x, .slice p len cap] 28)
  have l00 := six_new (k := 9) (b := b) (n := n) (t := t) (x := x) (p := p) (len := len) (cap := cap) w rfl
  go_enter Tryz.func38, Tryz.ntmps38
  go_wp2_with (first
    | ((with_reducible refine wpList_load6 (.tmp 2) w.heap.size (by assumption) ?_ ?_ ?_ ?_); rfl; rfl; rfl)
    | ((with_reducible refine wpList_load6g (.tmp 5) (w.heap.size + 1) (by assumption) ?_ ?_ ?_ ?_); rfl; rfl; rfl)
    | (go_at_call 72; (with_reducible refine (kindOfAt 9 b n t x _ 89 rfl _).mono ?_); rintro e w2 ⟨rfl, hb2⟩; have k2 := l0.below hb2; have m2 := l1.below hb2; have b2 := below_any b0 hb2 (by have := l0.lt; omega); have z2 : w.heap.size ≤ w2.heap.size := by have := k2.lt; omega
       clear l0 l1 l00 hb2 b0
       have c3 := k2.c3)
    | (simp only [ta89_80, ta89_81, ta89_82, ta89_83, ta89_84, ta89_85, ta89_87, ta89_88, ta89_89, ta89_90, ta89_91, Result.andThen_ok])
    | (go_at_call 75; (with_reducible refine (nameAs t _ h _ hs).mono ?_); rintro e w3 ⟨rfl, hb3⟩; have b3 := below_any b2 hb3 z2; have m3 := m2.below hb3; have e3 := m3.c3; have f3 := m3.free 3; have m4 := m3.set3 ⟨#[]⟩; have z3 : w.heap.size ≤ w3.heap.size := (by have := m3.lt; omega); have b9 := below_set (o := 3) b3 none (.string ⟨#[]⟩) (show w.heap.size ≤ w.heap.size + 1 by omega) z3))
  go_ret
  exact ⟨rfl, b9⟩
end Go.Proofs.YtoifjjgakblhhaaGreatDoor

/- Whether a value may be: lists, and what is of no kind. -/
namespace Go.Proofs.YtoifjjgakblhhaaGreatDoor
open Go.RowKit

set_option maxRecDepth 4000 in
set_option maxHeartbeats 1600000 in
theorem mayListYes (b : Bool) (n : Int) (t x : ByteArray) (p : Option Addr) (len cap : Nat) (d : Int) (w : World) (d0 : 0 ≤ d) (d1 : d ≤ 1000) (hc : ∀ W, Below w.heap.size w W → Calls Tryz.prog 76 #[.slice p len cap, .int .i64 (d + 1)] W fun e w' => e = .returned (.bool true) ∧ Below W.heap.size W w') :
    Calls Tryz.prog 38 #[.agg #[.int .i64 5, .bool b, .int .i64 n, .string t, .string x, .slice p len cap], .int .i64 d] w fun e w' => e = .returned (.bool (bareP b n t x 0)) ∧ Below w.heap.size w w' := by
  have l0 : Six ((w.alloc (.cells #[.int .i64 5, .bool b, .int .i64 n, .string t, .string x, .slice p len cap] 28)).alloc (.cells #[.int .i64 5, .bool b, .int .i64 n, .string t, .string x, .slice p len cap] 28)) w.heap.size 5 b n t x p len cap := (six_new w rfl).alloc _
  have l1 : Six ((w.alloc (.cells #[.int .i64 5, .bool b, .int .i64 n, .string t, .string x, .slice p len cap] 28)).alloc (.cells #[.int .i64 5, .bool b, .int .i64 n, .string t, .string x, .slice p len cap] 28)) (w.heap.size + 1) 5 b n t x p len cap := six_new _ (by simp)
  have b0 := below2 w (.cells #[.int .i64 5, .bool b, .int .i64 n, .string t, .string x, .slice p len cap] 28) (.cells #[.int .i64 5, .bool b, .int .i64 n, .string t, .string x, .slice p len cap] 28)
  have l00 := six_new (k := 5) (b := b) (n := n) (t := t) (x := x) (p := p) (len := len) (cap := cap) w rfl
  go_enter Tryz.func38, Tryz.ntmps38
  go_wp2_with (first
    | ((with_reducible refine wpList_load6 (.tmp 2) w.heap.size (by assumption) ?_ ?_ ?_ ?_); rfl; rfl; rfl)
    | ((with_reducible refine wpList_load6g (.tmp 5) (w.heap.size + 1) (by assumption) ?_ ?_ ?_ ?_); rfl; rfl; rfl)
    | (go_at_call 72; (with_reducible refine (kindOfAt 5 b n t x _ 91 rfl _).mono ?_); rintro e w2 ⟨rfl, hb2⟩; have k2 := l0.below hb2; have m2 := l1.below hb2; have b2 := below_any b0 hb2 (by have := l0.lt; omega); have z2 : w.heap.size ≤ w2.heap.size := by have := k2.lt; omega
       clear l0 l1 l00 hb2 b0
       have c5 := k2.c5; have e1 : IntKind.i64.wrap (d + 1) = d + 1 := IntWalk.i64_in _ (by omega))
    | (simp only [ta91_80, ta91_81, ta91_82, ta91_83, ta91_84, ta91_85, ta91_87, ta91_88, ta91_89, ta91_90, ta91_91, Result.andThen_ok])
    | (go_at_call 76; (with_reducible refine (hc _ b2).mono ?_); rintro e w3 ⟨rfl, hb3⟩; have b3 := below_any b2 hb3 z2; have m3 := m2.below hb3; have e3 := m3.c5; have f3 := m3.free 5; have m4 := m3.set5 none 0 0; have z3 : w.heap.size ≤ w3.heap.size := (by have := m3.lt; omega); have b4 := below_set (o := 5) b3 none (.slice none 0 0) (show w.heap.size ≤ w.heap.size + 1 by omega) z3; have z4 : w.heap.size ≤ (w3.setCell ⟨w.heap.size + 1, 5, none⟩ (.slice none 0 0)).heap.size := by simpa [World.setCell] using z3)
    | (go_at_call 77; (with_reducible refine (isBareAt 5 _ _ _ _ _ _ _ _).mono ?_); rintro e w9 ⟨rfl, hb9⟩; have b9 := below_any b4 hb9 z4))
  go_ret
  exact ⟨rfl, b9⟩
set_option maxRecDepth 4000 in
set_option maxHeartbeats 1600000 in
theorem mayListNo (b : Bool) (n : Int) (t x : ByteArray) (p : Option Addr) (len cap : Nat) (d : Int) (w : World) (d0 : 0 ≤ d) (d1 : d ≤ 1000) (hc : ∀ W, Below w.heap.size w W → Calls Tryz.prog 76 #[.slice p len cap, .int .i64 (d + 1)] W fun e w' => e = .returned (.bool false) ∧ Below W.heap.size W w') :
    Calls Tryz.prog 38 #[.agg #[.int .i64 5, .bool b, .int .i64 n, .string t, .string x, .slice p len cap], .int .i64 d] w fun e w' => e = .returned (.bool (false)) ∧ Below w.heap.size w w' := by
  have l0 : Six ((w.alloc (.cells #[.int .i64 5, .bool b, .int .i64 n, .string t, .string x, .slice p len cap] 28)).alloc (.cells #[.int .i64 5, .bool b, .int .i64 n, .string t, .string x, .slice p len cap] 28)) w.heap.size 5 b n t x p len cap := (six_new w rfl).alloc _
  have l1 : Six ((w.alloc (.cells #[.int .i64 5, .bool b, .int .i64 n, .string t, .string x, .slice p len cap] 28)).alloc (.cells #[.int .i64 5, .bool b, .int .i64 n, .string t, .string x, .slice p len cap] 28)) (w.heap.size + 1) 5 b n t x p len cap := six_new _ (by simp)
  have b0 := below2 w (.cells #[.int .i64 5, .bool b, .int .i64 n, .string t, .string x, .slice p len cap] 28) (.cells #[.int .i64 5, .bool b, .int .i64 n, .string t, .string x, .slice p len cap] 28)
  have l00 := six_new (k := 5) (b := b) (n := n) (t := t) (x := x) (p := p) (len := len) (cap := cap) w rfl
  go_enter Tryz.func38, Tryz.ntmps38
  go_wp2_with (first
    | ((with_reducible refine wpList_load6 (.tmp 2) w.heap.size (by assumption) ?_ ?_ ?_ ?_); rfl; rfl; rfl)
    | ((with_reducible refine wpList_load6g (.tmp 5) (w.heap.size + 1) (by assumption) ?_ ?_ ?_ ?_); rfl; rfl; rfl)
    | (go_at_call 72; (with_reducible refine (kindOfAt 5 b n t x _ 91 rfl _).mono ?_); rintro e w2 ⟨rfl, hb2⟩; have k2 := l0.below hb2; have m2 := l1.below hb2; have b2 := below_any b0 hb2 (by have := l0.lt; omega); have z2 : w.heap.size ≤ w2.heap.size := by have := k2.lt; omega
       clear l0 l1 l00 hb2 b0
       have c5 := k2.c5; have e1 : IntKind.i64.wrap (d + 1) = d + 1 := IntWalk.i64_in _ (by omega))
    | (simp only [ta91_80, ta91_81, ta91_82, ta91_83, ta91_84, ta91_85, ta91_87, ta91_88, ta91_89, ta91_90, ta91_91, Result.andThen_ok])
    | (go_at_call 76; (with_reducible refine (hc _ b2).mono ?_); rintro e w3 ⟨rfl, hb3⟩; have b3 := below_any b2 hb3 z2; have m3 := m2.below hb3; have e3 := m3.c5; have f3 := m3.free 5; have m4 := m3.set5 none 0 0; have z3 : w.heap.size ≤ w3.heap.size := (by have := m3.lt; omega); have b4 := below_set (o := 5) b3 none (.slice none 0 0) (show w.heap.size ≤ w.heap.size + 1 by omega) z3; have z4 : w.heap.size ≤ (w3.setCell ⟨w.heap.size + 1, 5, none⟩ (.slice none 0 0)).heap.size := by simpa [World.setCell] using z3))
  go_ret
  exact ⟨rfl, b4⟩
set_option maxRecDepth 4000 in
set_option maxHeartbeats 1600000 in
theorem mayStranger (k : Int) (b : Bool) (n : Int) (t x : ByteArray) (p : Option Addr) (len cap : Nat) (d : Int) (w : World) (hk : kindT k = 124) :
    Calls Tryz.prog 38 #[.agg #[.int .i64 k, .bool b, .int .i64 n, .string t, .string x, .slice p len cap], .int .i64 d] w fun e w' => e = .returned (.bool (false)) ∧ Below w.heap.size w w' := by
  have l0 : Six ((w.alloc (.cells #[.int .i64 k, .bool b, .int .i64 n, .string t, .string x, .slice p len cap] 28)).alloc (.cells #[.int .i64 k, .bool b, .int .i64 n, .string t, .string x, .slice p len cap] 28)) w.heap.size k b n t x p len cap := (six_new w rfl).alloc _
  have l1 : Six ((w.alloc (.cells #[.int .i64 k, .bool b, .int .i64 n, .string t, .string x, .slice p len cap] 28)).alloc (.cells #[.int .i64 k, .bool b, .int .i64 n, .string t, .string x, .slice p len cap] 28)) (w.heap.size + 1) k b n t x p len cap := six_new _ (by simp)
  have b0 := below2 w (.cells #[.int .i64 k, .bool b, .int .i64 n, .string t, .string x, .slice p len cap] 28) (.cells #[.int .i64 k, .bool b, .int .i64 n, .string t, .string x, .slice p len cap] 28)
  have l00 := six_new (k := k) (b := b) (n := n) (t := t) (x := x) (p := p) (len := len) (cap := cap) w rfl
  go_enter Tryz.func38, Tryz.ntmps38
  go_wp2_with (first
    | ((with_reducible refine wpList_load6 (.tmp 2) w.heap.size (by assumption) ?_ ?_ ?_ ?_); rfl; rfl; rfl)
    | ((with_reducible refine wpList_load6g (.tmp 5) (w.heap.size + 1) (by assumption) ?_ ?_ ?_ ?_); rfl; rfl; rfl)
    | (go_at_call 72; (with_reducible refine (kindOfAt k b n t x _ 124 hk.symm _).mono ?_); rintro e w2 ⟨rfl, hb2⟩; have k2 := l0.below hb2; have m2 := l1.below hb2; have b2 := below_any b0 hb2 (by have := l0.lt; omega); have z2 : w.heap.size ≤ w2.heap.size := by have := k2.lt; omega
       clear l0 l1 l00 hb2 b0
       skip)
    | (simp only [ta124_80, ta124_81, ta124_82, ta124_83, ta124_84, ta124_85, ta124_87, ta124_88, ta124_89, ta124_90, ta124_91, Result.andThen_ok]))
  go_ret
  exact ⟨rfl, b2⟩
end Go.Proofs.YtoifjjgakblhhaaGreatDoor
