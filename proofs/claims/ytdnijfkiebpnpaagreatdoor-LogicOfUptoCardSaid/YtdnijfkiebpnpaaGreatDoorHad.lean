/- Texts of one kind, one behind the other: each says ahead of itself what it shows. -/
import Derived.Test.YtdnijfkiebpnpaaGreatDoorHab
import Derived.Test.YtdnijfkiebpnpaaGreatDoorHac
/- Whether a value may be: the kinds one by one. -/
namespace Go.Proofs.YtdnijfkiebpnpaaGreatDoor
open Go.RowKit

set_option maxRecDepth 4000 in
set_option maxHeartbeats 1600000 in
theorem mayNull (b : Bool) (n : Int) (t x : ByteArray) (p : Option Addr) (len cap : Nat) (d : Int) (w : World) :
    Calls Tryz.prog 31 #[.agg #[.int .i64 0, .bool b, .int .i64 n, .string t, .string x, .slice p len cap], .int .i64 d] w fun e w' => e = .returned (.bool (bareP b n t x len)) ∧ Below w.heap.size w w' := by
  have l0 : Six ((w.alloc (.cells #[.int .i64 0, .bool b, .int .i64 n, .string t, .string x, .slice p len cap] 26)).alloc (.cells #[.int .i64 0, .bool b, .int .i64 n, .string t, .string x, .slice p len cap] 26)) w.heap.size 0 b n t x p len cap := (six_new w rfl).alloc _
  have l1 : Six ((w.alloc (.cells #[.int .i64 0, .bool b, .int .i64 n, .string t, .string x, .slice p len cap] 26)).alloc (.cells #[.int .i64 0, .bool b, .int .i64 n, .string t, .string x, .slice p len cap] 26)) (w.heap.size + 1) 0 b n t x p len cap := six_new _ (by simp)
  have b0 := below2 w (.cells #[.int .i64 0, .bool b, .int .i64 n, .string t, .string x, .slice p len cap] 26) (.cells #[.int .i64 0, .bool b, .int .i64 n, .string t, .string x, .slice p len cap] 26)
  have l00 := six_new (k := 0) (b := b) (n := n) (t := t) (x := x) (p := p) (len := len) (cap := cap) w rfl
  go_enter Tryz.func31, Tryz.ntmps31
  go_wp2_with (first
    | ((with_reducible refine wpList_load6 (.tmp 2) w.heap.size (by assumption) ?_ ?_ ?_ ?_); rfl; rfl; rfl)
    | ((with_reducible refine wpList_load6g (.tmp 5) (w.heap.size + 1) (by assumption) ?_ ?_ ?_ ?_); rfl; rfl; rfl)
    | (go_at_call 42; (with_reducible refine (kindOfAt 0 b n t x _ 67 rfl _).mono ?_); rintro e w2 ⟨rfl, hb2⟩; have k2 := l0.below hb2; have m2 := l1.below hb2; have b2 := below_any b0 hb2 (by have := l0.lt; omega); have z2 : w.heap.size ≤ w2.heap.size := by have := k2.lt; omega
       clear l0 l1 l00 hb2 b0
       skip)
    | (simp only [ta67_67, ta67_68, ta67_69, ta67_70, ta67_71, ta67_72, ta67_73, ta67_74, ta67_75, ta67_76, ta67_77, Result.andThen_ok])
    | (go_at_call 47; (with_reducible refine (isBareAt 0 _ _ _ _ _ _ _ _).mono ?_); rintro e w9 ⟨rfl, hb9⟩; have b9 := below_any b2 hb9 z2))
  go_ret
  exact ⟨rfl, b9⟩
set_option maxRecDepth 4000 in
set_option maxHeartbeats 1600000 in
theorem mayTruth (b : Bool) (n : Int) (t x : ByteArray) (p : Option Addr) (len cap : Nat) (d : Int) (w : World) :
    Calls Tryz.prog 31 #[.agg #[.int .i64 1, .bool b, .int .i64 n, .string t, .string x, .slice p len cap], .int .i64 d] w fun e w' => e = .returned (.bool (bareP false n t x len)) ∧ Below w.heap.size w w' := by
  have l0 : Six ((w.alloc (.cells #[.int .i64 1, .bool b, .int .i64 n, .string t, .string x, .slice p len cap] 26)).alloc (.cells #[.int .i64 1, .bool b, .int .i64 n, .string t, .string x, .slice p len cap] 26)) w.heap.size 1 b n t x p len cap := (six_new w rfl).alloc _
  have l1 : Six ((w.alloc (.cells #[.int .i64 1, .bool b, .int .i64 n, .string t, .string x, .slice p len cap] 26)).alloc (.cells #[.int .i64 1, .bool b, .int .i64 n, .string t, .string x, .slice p len cap] 26)) (w.heap.size + 1) 1 b n t x p len cap := six_new _ (by simp)
  have b0 := below2 w (.cells #[.int .i64 1, .bool b, .int .i64 n, .string t, .string x, .slice p len cap] 26) (.cells #[.int .i64 1, .bool b, .int .i64 n, .string t, .string x, .slice p len cap] 26)
  have l00 := six_new (k := 1) (b := b) (n := n) (t := t) (x := x) (p := p) (len := len) (cap := cap) w rfl
  go_enter Tryz.func31, Tryz.ntmps31
  go_wp2_with (first
    | ((with_reducible refine wpList_load6 (.tmp 2) w.heap.size (by assumption) ?_ ?_ ?_ ?_); rfl; rfl; rfl)
    | ((with_reducible refine wpList_load6g (.tmp 5) (w.heap.size + 1) (by assumption) ?_ ?_ ?_ ?_); rfl; rfl; rfl)
    | (go_at_call 42; (with_reducible refine (kindOfAt 1 b n t x _ 68 rfl _).mono ?_); rintro e w2 ⟨rfl, hb2⟩; have k2 := l0.below hb2; have m2 := l1.below hb2; have b2 := below_any b0 hb2 (by have := l0.lt; omega); have z2 : w.heap.size ≤ w2.heap.size := by have := k2.lt; omega
       clear l0 l1 l00 hb2 b0
       have c1 := m2.c1; have f1 := m2.free 1; have m3 := m2.set1 false; have b3 := below_set (o := 1) b2 none (.bool false) (show w.heap.size ≤ w.heap.size + 1 by omega) z2; have z3 : w.heap.size ≤ (w2.setCell ⟨w.heap.size + 1, 1, none⟩ (.bool false)).heap.size := by simpa [World.setCell] using z2)
    | (simp only [ta68_67, ta68_68, ta68_69, ta68_70, ta68_71, ta68_72, ta68_73, ta68_74, ta68_75, ta68_76, ta68_77, Result.andThen_ok])
    | (go_at_call 47; (with_reducible refine (isBareAt 1 _ _ _ _ _ _ _ _).mono ?_); rintro e w9 ⟨rfl, hb9⟩; have b9 := below_any b3 hb9 z3))
  go_ret
  exact ⟨rfl, b9⟩
set_option maxRecDepth 4000 in
set_option maxHeartbeats 1600000 in
theorem mayWhole (b : Bool) (n : Int) (t x : ByteArray) (p : Option Addr) (len cap : Nat) (d : Int) (w : World) :
    Calls Tryz.prog 31 #[.agg #[.int .i64 2, .bool b, .int .i64 n, .string t, .string x, .slice p len cap], .int .i64 d] w fun e w' => e = .returned (.bool (bareP b 0 t x len)) ∧ Below w.heap.size w w' := by
  have l0 : Six ((w.alloc (.cells #[.int .i64 2, .bool b, .int .i64 n, .string t, .string x, .slice p len cap] 26)).alloc (.cells #[.int .i64 2, .bool b, .int .i64 n, .string t, .string x, .slice p len cap] 26)) w.heap.size 2 b n t x p len cap := (six_new w rfl).alloc _
  have l1 : Six ((w.alloc (.cells #[.int .i64 2, .bool b, .int .i64 n, .string t, .string x, .slice p len cap] 26)).alloc (.cells #[.int .i64 2, .bool b, .int .i64 n, .string t, .string x, .slice p len cap] 26)) (w.heap.size + 1) 2 b n t x p len cap := six_new _ (by simp)
  have b0 := below2 w (.cells #[.int .i64 2, .bool b, .int .i64 n, .string t, .string x, .slice p len cap] 26) (.cells #[.int .i64 2, .bool b, .int .i64 n, .string t, .string x, .slice p len cap] 26)
  have l00 := six_new (k := 2) (b := b) (n := n) (t := t) (x := x) (p := p) (len := len) (cap := cap) w rfl
  go_enter Tryz.func31, Tryz.ntmps31
  go_wp2_with (first
    | ((with_reducible refine wpList_load6 (.tmp 2) w.heap.size (by assumption) ?_ ?_ ?_ ?_); rfl; rfl; rfl)
    | ((with_reducible refine wpList_load6g (.tmp 5) (w.heap.size + 1) (by assumption) ?_ ?_ ?_ ?_); rfl; rfl; rfl)
    | (go_at_call 42; (with_reducible refine (kindOfAt 2 b n t x _ 69 rfl _).mono ?_); rintro e w2 ⟨rfl, hb2⟩; have k2 := l0.below hb2; have m2 := l1.below hb2; have b2 := below_any b0 hb2 (by have := l0.lt; omega); have z2 : w.heap.size ≤ w2.heap.size := by have := k2.lt; omega
       clear l0 l1 l00 hb2 b0
       have c1 := m2.c2; have f1 := m2.free 2; have m3 := m2.set2 0; have b3 := below_set (o := 2) b2 none (.int .i64 0) (show w.heap.size ≤ w.heap.size + 1 by omega) z2; have z3 : w.heap.size ≤ (w2.setCell ⟨w.heap.size + 1, 2, none⟩ (.int .i64 0)).heap.size := by simpa [World.setCell] using z2)
    | (simp only [ta69_67, ta69_68, ta69_69, ta69_70, ta69_71, ta69_72, ta69_73, ta69_74, ta69_75, ta69_76, ta69_77, Result.andThen_ok])
    | (go_at_call 47; (with_reducible refine (isBareAt 2 _ _ _ _ _ _ _ _).mono ?_); rintro e w9 ⟨rfl, hb9⟩; have b9 := below_any b3 hb9 z3))
  go_ret
  exact ⟨rfl, b9⟩
theorem chkAs (s : ByteArray) (r : Bool) (h : chk s.data.toList = r) (w : World) (hG : Gd w) (hs : s.size < 4294967281) : Calls Tryz.prog 43 #[.string s] w fun e w' => e = .returned (.bool r) ∧ Below w.heap.size w w' := by
  subst h
  exact checkAt s w hG hs
theorem addrAs (s : ByteArray) (r : Bool) (h : addrP s = r) (w : World) (hs : s.size ≤ maxLen) : Calls Tryz.prog 44 #[.string s] w fun e w' => e = .returned (.bool r) ∧ Below w.heap.size w w' := by
  subst h
  exact (isAddressAt s w hs).mono fun _ _ ⟨h, k⟩ => ⟨h, k ▸ Below.refl _ _⟩
theorem nameAs (s : ByteArray) (r : Bool) (h : nameP s = r) (w : World) (hs : s.size ≤ maxLen) : Calls Tryz.prog 45 #[.string s] w fun e w' => e = .returned (.bool r) ∧ Below w.heap.size w w' := by
  subst h
  exact (isNameAt s w hs).mono fun _ _ ⟨h, k⟩ => ⟨h, k ▸ Below.refl _ _⟩

set_option maxRecDepth 4000 in
set_option maxHeartbeats 1600000 in
theorem mayExactYes (b : Bool) (n : Int) (t x : ByteArray) (p : Option Addr) (len cap : Nat) (d : Int) (w : World) (hG : Gd w) (hs : t.size < 4294967281) (h : chk t.data.toList = true) :
    Calls Tryz.prog 31 #[.agg #[.int .i64 3, .bool b, .int .i64 n, .string t, .string x, .slice p len cap], .int .i64 d] w fun e w' => e = .returned (.bool (bareP b n ⟨#[]⟩ x len)) ∧ Below w.heap.size w w' := by
  have l0 : Six ((w.alloc (.cells #[.int .i64 3, .bool b, .int .i64 n, .string t, .string x, .slice p len cap] 26)).alloc (.cells #[.int .i64 3, .bool b, .int .i64 n, .string t, .string x, .slice p len cap] 26)) w.heap.size 3 b n t x p len cap := (six_new w rfl).alloc _
  have l1 : Six ((w.alloc (.cells #[.int .i64 3, .bool b, .int .i64 n, .string t, .string x, .slice p len cap] 26)).alloc (.cells #[.int .i64 3, .bool b, .int .i64 n, .string t, .string x, .slice p len cap] 26)) (w.heap.size + 1) 3 b n t x p len cap := six_new _ (by simp)
  have b0 := below2 w (.cells #[.int .i64 3, .bool b, .int .i64 n, .string t, .string x, .slice p len cap] 26) (.cells #[.int .i64 3, .bool b, .int .i64 n, .string t, .string x, .slice p len cap] 26)
  have l00 := six_new (k := 3) (b := b) (n := n) (t := t) (x := x) (p := p) (len := len) (cap := cap) w rfl
  go_enter Tryz.func31, Tryz.ntmps31
  go_wp2_with (first
    | ((with_reducible refine wpList_load6 (.tmp 2) w.heap.size (by assumption) ?_ ?_ ?_ ?_); rfl; rfl; rfl)
    | ((with_reducible refine wpList_load6g (.tmp 5) (w.heap.size + 1) (by assumption) ?_ ?_ ?_ ?_); rfl; rfl; rfl)
    | (go_at_call 42; (with_reducible refine (kindOfAt 3 b n t x _ 72 rfl _).mono ?_); rintro e w2 ⟨rfl, hb2⟩; have k2 := l0.below hb2; have m2 := l1.below hb2; have b2 := below_any b0 hb2 (by have := l0.lt; omega); have z2 : w.heap.size ≤ w2.heap.size := by have := k2.lt; omega
       clear l0 l1 l00 hb2 b0
       have c3 := k2.c3)
    | (simp only [ta72_67, ta72_68, ta72_69, ta72_70, ta72_71, ta72_72, ta72_73, ta72_74, ta72_75, ta72_76, ta72_77, Result.andThen_ok])
    | (go_at_call 43; (with_reducible refine (chkAs t _ h _ (hG.below b2) hs).mono ?_); rintro e w3 ⟨rfl, hb3⟩; have b3 := below_any b2 hb3 z2; have m3 := m2.below hb3; have e3 := m3.c3; have f3 := m3.free 3; have m4 := m3.set3 ⟨#[]⟩; have z3 : w.heap.size ≤ w3.heap.size := (by have := m3.lt; omega); have b4 := below_set (o := 3) b3 none (.string ⟨#[]⟩) (show w.heap.size ≤ w.heap.size + 1 by omega) z3; have z4 : w.heap.size ≤ (w3.setCell ⟨w.heap.size + 1, 3, none⟩ (.string ⟨#[]⟩)).heap.size := by simpa [World.setCell] using z3)
    | (go_at_call 47; (with_reducible refine (isBareAt 3 _ _ _ _ _ _ _ _).mono ?_); rintro e w9 ⟨rfl, hb9⟩; have b9 := below_any b4 hb9 z4))
  go_ret
  exact ⟨rfl, b9⟩
set_option maxRecDepth 4000 in
set_option maxHeartbeats 1600000 in
theorem mayExactNo (b : Bool) (n : Int) (t x : ByteArray) (p : Option Addr) (len cap : Nat) (d : Int) (w : World) (hG : Gd w) (hs : t.size < 4294967281) (h : chk t.data.toList = false) :
    Calls Tryz.prog 31 #[.agg #[.int .i64 3, .bool b, .int .i64 n, .string t, .string x, .slice p len cap], .int .i64 d] w fun e w' => e = .returned (.bool (false)) ∧ Below w.heap.size w w' := by
  have l0 : Six ((w.alloc (.cells #[.int .i64 3, .bool b, .int .i64 n, .string t, .string x, .slice p len cap] 26)).alloc (.cells #[.int .i64 3, .bool b, .int .i64 n, .string t, .string x, .slice p len cap] 26)) w.heap.size 3 b n t x p len cap := (six_new w rfl).alloc _
  have l1 : Six ((w.alloc (.cells #[.int .i64 3, .bool b, .int .i64 n, .string t, .string x, .slice p len cap] 26)).alloc (.cells #[.int .i64 3, .bool b, .int .i64 n, .string t, .string x, .slice p len cap] 26)) (w.heap.size + 1) 3 b n t x p len cap := six_new _ (by simp)
  have b0 := below2 w (.cells #[.int .i64 3, .bool b, .int .i64 n, .string t, .string x, .slice p len cap] 26) (.cells #[.int .i64 3, .bool b, .int .i64 n, .string t, .string x, .slice p len cap] 26)
  have l00 := six_new (k := 3) (b := b) (n := n) (t := t) (x := x) (p := p) (len := len) (cap := cap) w rfl
  go_enter Tryz.func31, Tryz.ntmps31
  go_wp2_with (first
    | ((with_reducible refine wpList_load6 (.tmp 2) w.heap.size (by assumption) ?_ ?_ ?_ ?_); rfl; rfl; rfl)
    | ((with_reducible refine wpList_load6g (.tmp 5) (w.heap.size + 1) (by assumption) ?_ ?_ ?_ ?_); rfl; rfl; rfl)
    | (go_at_call 42; (with_reducible refine (kindOfAt 3 b n t x _ 72 rfl _).mono ?_); rintro e w2 ⟨rfl, hb2⟩; have k2 := l0.below hb2; have m2 := l1.below hb2; have b2 := below_any b0 hb2 (by have := l0.lt; omega); have z2 : w.heap.size ≤ w2.heap.size := by have := k2.lt; omega
       clear l0 l1 l00 hb2 b0
       have c3 := k2.c3)
    | (simp only [ta72_67, ta72_68, ta72_69, ta72_70, ta72_71, ta72_72, ta72_73, ta72_74, ta72_75, ta72_76, ta72_77, Result.andThen_ok])
    | (go_at_call 43; (with_reducible refine (chkAs t _ h _ (hG.below b2) hs).mono ?_); rintro e w3 ⟨rfl, hb3⟩; have b3 := below_any b2 hb3 z2; have m3 := m2.below hb3; have e3 := m3.c3; have f3 := m3.free 3; have m4 := m3.set3 ⟨#[]⟩; have z3 : w.heap.size ≤ w3.heap.size := (by have := m3.lt; omega); have b9 := below_set (o := 3) b3 none (.string ⟨#[]⟩) (show w.heap.size ≤ w.heap.size + 1 by omega) z3))
  go_ret
  exact ⟨rfl, b9⟩
set_option maxRecDepth 4000 in
set_option maxHeartbeats 1600000 in
theorem mayIriYes (b : Bool) (n : Int) (t x : ByteArray) (p : Option Addr) (len cap : Nat) (d : Int) (w : World) (hs : t.size ≤ maxLen) (h : addrP t = true) :
    Calls Tryz.prog 31 #[.agg #[.int .i64 8, .bool b, .int .i64 n, .string t, .string x, .slice p len cap], .int .i64 d] w fun e w' => e = .returned (.bool (bareP b n ⟨#[]⟩ x len)) ∧ Below w.heap.size w w' := by
  have l0 : Six ((w.alloc (.cells #[.int .i64 8, .bool b, .int .i64 n, .string t, .string x, .slice p len cap] 26)).alloc (.cells #[.int .i64 8, .bool b, .int .i64 n, .string t, .string x, .slice p len cap] 26)) w.heap.size 8 b n t x p len cap := (six_new w rfl).alloc _
  have l1 : Six ((w.alloc (.cells #[.int .i64 8, .bool b, .int .i64 n, .string t, .string x, .slice p len cap] 26)).alloc (.cells #[.int .i64 8, .bool b, .int .i64 n, .string t, .string x, .slice p len cap] 26)) (w.heap.size + 1) 8 b n t x p len cap := six_new _ (by simp)
  have b0 := below2 w (.cells #[.int .i64 8, .bool b, .int .i64 n, .string t, .string x, .slice p len cap] 26) (.cells #[.int .i64 8, .bool b, .int .i64 n, .string t, .string x, .slice p len cap] 26)
  have l00 := six_new (k := 8) (b := b) (n := n) (t := t) (x := x) (p := p) (len := len) (cap := cap) w rfl
  go_enter Tryz.func31, Tryz.ntmps31
  go_wp2_with (first
    | ((with_reducible refine wpList_load6 (.tmp 2) w.heap.size (by assumption) ?_ ?_ ?_ ?_); rfl; rfl; rfl)
    | ((with_reducible refine wpList_load6g (.tmp 5) (w.heap.size + 1) (by assumption) ?_ ?_ ?_ ?_); rfl; rfl; rfl)
    | (go_at_call 42; (with_reducible refine (kindOfAt 8 b n t x _ 74 rfl _).mono ?_); rintro e w2 ⟨rfl, hb2⟩; have k2 := l0.below hb2; have m2 := l1.below hb2; have b2 := below_any b0 hb2 (by have := l0.lt; omega); have z2 : w.heap.size ≤ w2.heap.size := by have := k2.lt; omega
       clear l0 l1 l00 hb2 b0
       have c3 := k2.c3)
    | (simp only [ta74_67, ta74_68, ta74_69, ta74_70, ta74_71, ta74_72, ta74_73, ta74_74, ta74_75, ta74_76, ta74_77, Result.andThen_ok])
    | (go_at_call 44; (with_reducible refine (addrAs t _ h _ hs).mono ?_); rintro e w3 ⟨rfl, hb3⟩; have b3 := below_any b2 hb3 z2; have m3 := m2.below hb3; have e3 := m3.c3; have f3 := m3.free 3; have m4 := m3.set3 ⟨#[]⟩; have z3 : w.heap.size ≤ w3.heap.size := (by have := m3.lt; omega); have b4 := below_set (o := 3) b3 none (.string ⟨#[]⟩) (show w.heap.size ≤ w.heap.size + 1 by omega) z3; have z4 : w.heap.size ≤ (w3.setCell ⟨w.heap.size + 1, 3, none⟩ (.string ⟨#[]⟩)).heap.size := by simpa [World.setCell] using z3)
    | (go_at_call 47; (with_reducible refine (isBareAt 8 _ _ _ _ _ _ _ _).mono ?_); rintro e w9 ⟨rfl, hb9⟩; have b9 := below_any b4 hb9 z4))
  go_ret
  exact ⟨rfl, b9⟩
set_option maxRecDepth 4000 in
set_option maxHeartbeats 1600000 in
theorem mayIriNo (b : Bool) (n : Int) (t x : ByteArray) (p : Option Addr) (len cap : Nat) (d : Int) (w : World) (hs : t.size ≤ maxLen) (h : addrP t = false) :
    Calls Tryz.prog 31 #[.agg #[.int .i64 8, .bool b, .int .i64 n, .string t, .string x, .slice p len cap], .int .i64 d] w fun e w' => e = .returned (.bool (false)) ∧ Below w.heap.size w w' := by
  have l0 : Six ((w.alloc (.cells #[.int .i64 8, .bool b, .int .i64 n, .string t, .string x, .slice p len cap] 26)).alloc (.cells #[.int .i64 8, .bool b, .int .i64 n, .string t, .string x, .slice p len cap] 26)) w.heap.size 8 b n t x p len cap := (six_new w rfl).alloc _
  have l1 : Six ((w.alloc (.cells #[.int .i64 8, .bool b, .int .i64 n, .string t, .string x, .slice p len cap] 26)).alloc (.cells #[.int .i64 8, .bool b, .int .i64 n, .string t, .string x, .slice p len cap] 26)) (w.heap.size + 1) 8 b n t x p len cap := six_new _ (by simp)
  have b0 := below2 w (.cells #[.int .i64 8, .bool b, .int .i64 n, .string t, .string x, .slice p len cap] 26) (.cells #[.int .i64 8, .bool b, .int .i64 n, .string t, .string x, .slice p len cap] 26)
  have l00 := six_new (k := 8) (b := b) (n := n) (t := t) (x := x) (p := p) (len := len) (cap := cap) w rfl
  go_enter Tryz.func31, Tryz.ntmps31
  go_wp2_with (first
    | ((with_reducible refine wpList_load6 (.tmp 2) w.heap.size (by assumption) ?_ ?_ ?_ ?_); rfl; rfl; rfl)
    | ((with_reducible refine wpList_load6g (.tmp 5) (w.heap.size + 1) (by assumption) ?_ ?_ ?_ ?_); rfl; rfl; rfl)
    | (go_at_call 42; (with_reducible refine (kindOfAt 8 b n t x _ 74 rfl _).mono ?_); rintro e w2 ⟨rfl, hb2⟩; have k2 := l0.below hb2; have m2 := l1.below hb2; have b2 := below_any b0 hb2 (by have := l0.lt; omega); have z2 : w.heap.size ≤ w2.heap.size := by have := k2.lt; omega
       clear l0 l1 l00 hb2 b0
       have c3 := k2.c3)
    | (simp only [ta74_67, ta74_68, ta74_69, ta74_70, ta74_71, ta74_72, ta74_73, ta74_74, ta74_75, ta74_76, ta74_77, Result.andThen_ok])
    | (go_at_call 44; (with_reducible refine (addrAs t _ h _ hs).mono ?_); rintro e w3 ⟨rfl, hb3⟩; have b3 := below_any b2 hb3 z2; have m3 := m2.below hb3; have e3 := m3.c3; have f3 := m3.free 3; have m4 := m3.set3 ⟨#[]⟩; have z3 : w.heap.size ≤ w3.heap.size := (by have := m3.lt; omega); have b9 := below_set (o := 3) b3 none (.string ⟨#[]⟩) (show w.heap.size ≤ w.heap.size + 1 by omega) z3))
  go_ret
  exact ⟨rfl, b9⟩
set_option maxRecDepth 4000 in
set_option maxHeartbeats 1600000 in
theorem mayBlankYes (b : Bool) (n : Int) (t x : ByteArray) (p : Option Addr) (len cap : Nat) (d : Int) (w : World) (hs : t.size ≤ maxLen) (h : nameP t = true) :
    Calls Tryz.prog 31 #[.agg #[.int .i64 9, .bool b, .int .i64 n, .string t, .string x, .slice p len cap], .int .i64 d] w fun e w' => e = .returned (.bool (bareP b n ⟨#[]⟩ x len)) ∧ Below w.heap.size w w' := by
  have l0 : Six ((w.alloc (.cells #[.int .i64 9, .bool b, .int .i64 n, .string t, .string x, .slice p len cap] 26)).alloc (.cells #[.int .i64 9, .bool b, .int .i64 n, .string t, .string x, .slice p len cap] 26)) w.heap.size 9 b n t x p len cap := (six_new w rfl).alloc _
  have l1 : Six ((w.alloc (.cells #[.int .i64 9, .bool b, .int .i64 n, .string t, .string x, .slice p len cap] 26)).alloc (.cells #[.int .i64 9, .bool b, .int .i64 n, .string t, .string x, .slice p len cap] 26)) (w.heap.size + 1) 9 b n t x p len cap := six_new _ (by simp)
  have b0 := below2 w (.cells #[.int .i64 9, .bool b, .int .i64 n, .string t, .string x, .slice p len cap] 26) (.cells #[.int .i64 9, .bool b, .int .i64 n, .string t, .string x, .slice p len cap] 26)
  have l00 := six_new (k := 9) (b := b) (n := n) (t := t) (x := x) (p := p) (len := len) (cap := cap) w rfl
  go_enter Tryz.func31, Tryz.ntmps31
  go_wp2_with (first
    | ((with_reducible refine wpList_load6 (.tmp 2) w.heap.size (by assumption) ?_ ?_ ?_ ?_); rfl; rfl; rfl)
    | ((with_reducible refine wpList_load6g (.tmp 5) (w.heap.size + 1) (by assumption) ?_ ?_ ?_ ?_); rfl; rfl; rfl)
    | (go_at_call 42; (with_reducible refine (kindOfAt 9 b n t x _ 75 rfl _).mono ?_); rintro e w2 ⟨rfl, hb2⟩; have k2 := l0.below hb2; have m2 := l1.below hb2; have b2 := below_any b0 hb2 (by have := l0.lt; omega); have z2 : w.heap.size ≤ w2.heap.size := by have := k2.lt; omega
       clear l0 l1 l00 hb2 b0
       have c3 := k2.c3)
    | (simp only [ta75_67, ta75_68, ta75_69, ta75_70, ta75_71, ta75_72, ta75_73, ta75_74, ta75_75, ta75_76, ta75_77, Result.andThen_ok])
    | (go_at_call 45; (with_reducible refine (nameAs t _ h _ hs).mono ?_); rintro e w3 ⟨rfl, hb3⟩; have b3 := below_any b2 hb3 z2; have m3 := m2.below hb3; have e3 := m3.c3; have f3 := m3.free 3; have m4 := m3.set3 ⟨#[]⟩; have z3 : w.heap.size ≤ w3.heap.size := (by have := m3.lt; omega); have b4 := below_set (o := 3) b3 none (.string ⟨#[]⟩) (show w.heap.size ≤ w.heap.size + 1 by omega) z3; have z4 : w.heap.size ≤ (w3.setCell ⟨w.heap.size + 1, 3, none⟩ (.string ⟨#[]⟩)).heap.size := by simpa [World.setCell] using z3)
    | (go_at_call 47; (with_reducible refine (isBareAt 9 _ _ _ _ _ _ _ _).mono ?_); rintro e w9 ⟨rfl, hb9⟩; have b9 := below_any b4 hb9 z4))
  go_ret
  exact ⟨rfl, b9⟩
set_option maxRecDepth 4000 in
set_option maxHeartbeats 1600000 in
theorem mayBlankNo (b : Bool) (n : Int) (t x : ByteArray) (p : Option Addr) (len cap : Nat) (d : Int) (w : World) (hs : t.size ≤ maxLen) (h : nameP t = false) :
    Calls Tryz.prog 31 #[.agg #[.int .i64 9, .bool b, .int .i64 n, .string t, .string x, .slice p len cap], .int .i64 d] w fun e w' => e = .returned (.bool (false)) ∧ Below w.heap.size w w' := by
  have l0 : Six ((w.alloc (.cells #[.int .i64 9, .bool b, .int .i64 n, .string t, .string x, .slice p len cap] 26)).alloc (.cells #[.int .i64 9, .bool b, .int .i64 n, .string t, .string x, .slice p len cap] 26)) w.heap.size 9 b n t x p len cap := (six_new w rfl).alloc _
  have l1 : Six ((w.alloc (.cells #[.int .i64 9, .bool b, .int .i64 n, .string t, .string x, .slice p len cap] 26)).alloc (.cells #[.int .i64 9, .bool b, .int .i64 n, .string t, .string x, .slice p len cap] 26)) (w.heap.size + 1) 9 b n t x p len cap := six_new _ (by simp)
  have b0 := below2 w (.cells #[.int .i64 9, .bool b, .int .i64 n, .string t, .string x, .slice p len cap] 26) (.cells #[.int .i64 9, .bool b, .int .i64 n, .string t, .string x, .slice p len cap] 26)
  have l00 := six_new (k := 9) (b := b) (n := n) (t := t) (x := x) (p := p) (len := len) (cap := cap) w rfl
  go_enter Tryz.func31, Tryz.ntmps31
  go_wp2_with (first
    | ((with_reducible refine wpList_load6 (.tmp 2) w.heap.size (by assumption) ?_ ?_ ?_ ?_); rfl; rfl; rfl)
    | ((with_reducible refine wpList_load6g (.tmp 5) (w.heap.size + 1) (by assumption) ?_ ?_ ?_ ?_); rfl; rfl; rfl)
    | (go_at_call 42; (with_reducible refine (kindOfAt 9 b n t x _ 75 rfl _).mono ?_); rintro e w2 ⟨rfl, hb2⟩; have k2 := l0.below hb2; have m2 := l1.below hb2; have b2 := below_any b0 hb2 (by have := l0.lt; omega); have z2 : w.heap.size ≤ w2.heap.size := by have := k2.lt; omega
       clear l0 l1 l00 hb2 b0
       have c3 := k2.c3)
    | (simp only [ta75_67, ta75_68, ta75_69, ta75_70, ta75_71, ta75_72, ta75_73, ta75_74, ta75_75, ta75_76, ta75_77, Result.andThen_ok])
    | (go_at_call 45; (with_reducible refine (nameAs t _ h _ hs).mono ?_); rintro e w3 ⟨rfl, hb3⟩; have b3 := below_any b2 hb3 z2; have m3 := m2.below hb3; have e3 := m3.c3; have f3 := m3.free 3; have m4 := m3.set3 ⟨#[]⟩; have z3 : w.heap.size ≤ w3.heap.size := (by have := m3.lt; omega); have b9 := below_set (o := 3) b3 none (.string ⟨#[]⟩) (show w.heap.size ≤ w.heap.size + 1 by omega) z3))
  go_ret
  exact ⟨rfl, b9⟩
end Go.Proofs.YtdnijfkiebpnpaaGreatDoor

/- Whether a value may be: lists, and what is of no kind. -/
namespace Go.Proofs.YtdnijfkiebpnpaaGreatDoor
open Go.RowKit

set_option maxRecDepth 4000 in
set_option maxHeartbeats 1600000 in
theorem mayListYes (b : Bool) (n : Int) (t x : ByteArray) (p : Option Addr) (len cap : Nat) (d : Int) (w : World) (d0 : 0 ≤ d) (d1 : d ≤ 1000) (hc : ∀ W, Below w.heap.size w W → Calls Tryz.prog 46 #[.slice p len cap, .int .i64 (d + 1)] W fun e w' => e = .returned (.bool true) ∧ Below W.heap.size W w') :
    Calls Tryz.prog 31 #[.agg #[.int .i64 5, .bool b, .int .i64 n, .string t, .string x, .slice p len cap], .int .i64 d] w fun e w' => e = .returned (.bool (bareP b n t x 0)) ∧ Below w.heap.size w w' := by
  have l0 : Six ((w.alloc (.cells #[.int .i64 5, .bool b, .int .i64 n, .string t, .string x, .slice p len cap] 26)).alloc (.cells #[.int .i64 5, .bool b, .int .i64 n, .string t, .string x, .slice p len cap] 26)) w.heap.size 5 b n t x p len cap := (six_new w rfl).alloc _
  have l1 : Six ((w.alloc (.cells #[.int .i64 5, .bool b, .int .i64 n, .string t, .string x, .slice p len cap] 26)).alloc (.cells #[.int .i64 5, .bool b, .int .i64 n, .string t, .string x, .slice p len cap] 26)) (w.heap.size + 1) 5 b n t x p len cap := six_new _ (by simp)
  have b0 := below2 w (.cells #[.int .i64 5, .bool b, .int .i64 n, .string t, .string x, .slice p len cap] 26) (.cells #[.int .i64 5, .bool b, .int .i64 n, .string t, .string x, .slice p len cap] 26)
  have l00 := six_new (k := 5) (b := b) (n := n) (t := t) (x := x) (p := p) (len := len) (cap := cap) w rfl
  go_enter Tryz.func31, Tryz.ntmps31
  go_wp2_with (first
    | ((with_reducible refine wpList_load6 (.tmp 2) w.heap.size (by assumption) ?_ ?_ ?_ ?_); rfl; rfl; rfl)
    | ((with_reducible refine wpList_load6g (.tmp 5) (w.heap.size + 1) (by assumption) ?_ ?_ ?_ ?_); rfl; rfl; rfl)
    | (go_at_call 42; (with_reducible refine (kindOfAt 5 b n t x _ 77 rfl _).mono ?_); rintro e w2 ⟨rfl, hb2⟩; have k2 := l0.below hb2; have m2 := l1.below hb2; have b2 := below_any b0 hb2 (by have := l0.lt; omega); have z2 : w.heap.size ≤ w2.heap.size := by have := k2.lt; omega
       clear l0 l1 l00 hb2 b0
       have c5 := k2.c5; have e1 : IntKind.i64.wrap (d + 1) = d + 1 := IntWalk.i64_in _ (by omega))
    | (simp only [ta77_67, ta77_68, ta77_69, ta77_70, ta77_71, ta77_72, ta77_73, ta77_74, ta77_75, ta77_76, ta77_77, Result.andThen_ok])
    | (go_at_call 46; (with_reducible refine (hc _ b2).mono ?_); rintro e w3 ⟨rfl, hb3⟩; have b3 := below_any b2 hb3 z2; have m3 := m2.below hb3; have e3 := m3.c5; have f3 := m3.free 5; have m4 := m3.set5 none 0 0; have z3 : w.heap.size ≤ w3.heap.size := (by have := m3.lt; omega); have b4 := below_set (o := 5) b3 none (.slice none 0 0) (show w.heap.size ≤ w.heap.size + 1 by omega) z3; have z4 : w.heap.size ≤ (w3.setCell ⟨w.heap.size + 1, 5, none⟩ (.slice none 0 0)).heap.size := by simpa [World.setCell] using z3)
    | (go_at_call 47; (with_reducible refine (isBareAt 5 _ _ _ _ _ _ _ _).mono ?_); rintro e w9 ⟨rfl, hb9⟩; have b9 := below_any b4 hb9 z4))
  go_ret
  exact ⟨rfl, b9⟩
set_option maxRecDepth 4000 in
set_option maxHeartbeats 1600000 in
theorem mayListNo (b : Bool) (n : Int) (t x : ByteArray) (p : Option Addr) (len cap : Nat) (d : Int) (w : World) (d0 : 0 ≤ d) (d1 : d ≤ 1000) (hc : ∀ W, Below w.heap.size w W → Calls Tryz.prog 46 #[.slice p len cap, .int .i64 (d + 1)] W fun e w' => e = .returned (.bool false) ∧ Below W.heap.size W w') :
    Calls Tryz.prog 31 #[.agg #[.int .i64 5, .bool b, .int .i64 n, .string t, .string x, .slice p len cap], .int .i64 d] w fun e w' => e = .returned (.bool (false)) ∧ Below w.heap.size w w' := by
  have l0 : Six ((w.alloc (.cells #[.int .i64 5, .bool b, .int .i64 n, .string t, .string x, .slice p len cap] 26)).alloc (.cells #[.int .i64 5, .bool b, .int .i64 n, .string t, .string x, .slice p len cap] 26)) w.heap.size 5 b n t x p len cap := (six_new w rfl).alloc _
  have l1 : Six ((w.alloc (.cells #[.int .i64 5, .bool b, .int .i64 n, .string t, .string x, .slice p len cap] 26)).alloc (.cells #[.int .i64 5, .bool b, .int .i64 n, .string t, .string x, .slice p len cap] 26)) (w.heap.size + 1) 5 b n t x p len cap := six_new _ (by simp)
  have b0 := below2 w (.cells #[.int .i64 5, .bool b, .int .i64 n, .string t, .string x, .slice p len cap] 26) (.cells #[.int .i64 5, .bool b, .int .i64 n, .string t, .string x, .slice p len cap] 26)
  have l00 := six_new (k := 5) (b := b) (n := n) (t := t) (x := x) (p := p) (len := len) (cap := cap) w rfl
  go_enter Tryz.func31, Tryz.ntmps31
  go_wp2_with (first
    | ((with_reducible refine wpList_load6 (.tmp 2) w.heap.size (by assumption) ?_ ?_ ?_ ?_); rfl; rfl; rfl)
    | ((with_reducible refine wpList_load6g (.tmp 5) (w.heap.size + 1) (by assumption) ?_ ?_ ?_ ?_); rfl; rfl; rfl)
    | (go_at_call 42; (with_reducible refine (kindOfAt 5 b n t x _ 77 rfl _).mono ?_); rintro e w2 ⟨rfl, hb2⟩; have k2 := l0.below hb2; have m2 := l1.below hb2; have b2 := below_any b0 hb2 (by have := l0.lt; omega); have z2 : w.heap.size ≤ w2.heap.size := by have := k2.lt; omega
       clear l0 l1 l00 hb2 b0
       have c5 := k2.c5; have e1 : IntKind.i64.wrap (d + 1) = d + 1 := IntWalk.i64_in _ (by omega))
    | (simp only [ta77_67, ta77_68, ta77_69, ta77_70, ta77_71, ta77_72, ta77_73, ta77_74, ta77_75, ta77_76, ta77_77, Result.andThen_ok])
    | (go_at_call 46; (with_reducible refine (hc _ b2).mono ?_); rintro e w3 ⟨rfl, hb3⟩; have b3 := below_any b2 hb3 z2; have m3 := m2.below hb3; have e3 := m3.c5; have f3 := m3.free 5; have m4 := m3.set5 none 0 0; have z3 : w.heap.size ≤ w3.heap.size := (by have := m3.lt; omega); have b4 := below_set (o := 5) b3 none (.slice none 0 0) (show w.heap.size ≤ w.heap.size + 1 by omega) z3; have z4 : w.heap.size ≤ (w3.setCell ⟨w.heap.size + 1, 5, none⟩ (.slice none 0 0)).heap.size := by simpa [World.setCell] using z3))
  go_ret
  exact ⟨rfl, b4⟩
set_option maxRecDepth 4000 in
set_option maxHeartbeats 1600000 in
theorem mayStranger (k : Int) (b : Bool) (n : Int) (t x : ByteArray) (p : Option Addr) (len cap : Nat) (d : Int) (w : World) (hk : kindT k = 85) :
    Calls Tryz.prog 31 #[.agg #[.int .i64 k, .bool b, .int .i64 n, .string t, .string x, .slice p len cap], .int .i64 d] w fun e w' => e = .returned (.bool (false)) ∧ Below w.heap.size w w' := by
  have l0 : Six ((w.alloc (.cells #[.int .i64 k, .bool b, .int .i64 n, .string t, .string x, .slice p len cap] 26)).alloc (.cells #[.int .i64 k, .bool b, .int .i64 n, .string t, .string x, .slice p len cap] 26)) w.heap.size k b n t x p len cap := (six_new w rfl).alloc _
  have l1 : Six ((w.alloc (.cells #[.int .i64 k, .bool b, .int .i64 n, .string t, .string x, .slice p len cap] 26)).alloc (.cells #[.int .i64 k, .bool b, .int .i64 n, .string t, .string x, .slice p len cap] 26)) (w.heap.size + 1) k b n t x p len cap := six_new _ (by simp)
  have b0 := below2 w (.cells #[.int .i64 k, .bool b, .int .i64 n, .string t, .string x, .slice p len cap] 26) (.cells #[.int .i64 k, .bool b, .int .i64 n, .string t, .string x, .slice p len cap] 26)
  have l00 := six_new (k := k) (b := b) (n := n) (t := t) (x := x) (p := p) (len := len) (cap := cap) w rfl
  go_enter Tryz.func31, Tryz.ntmps31
  go_wp2_with (first
    | ((with_reducible refine wpList_load6 (.tmp 2) w.heap.size (by assumption) ?_ ?_ ?_ ?_); rfl; rfl; rfl)
    | ((with_reducible refine wpList_load6g (.tmp 5) (w.heap.size + 1) (by assumption) ?_ ?_ ?_ ?_); rfl; rfl; rfl)
    | (go_at_call 42; (with_reducible refine (kindOfAt k b n t x _ 85 hk.symm _).mono ?_); rintro e w2 ⟨rfl, hb2⟩; have k2 := l0.below hb2; have m2 := l1.below hb2; have b2 := below_any b0 hb2 (by have := l0.lt; omega); have z2 : w.heap.size ≤ w2.heap.size := by have := k2.lt; omega
       clear l0 l1 l00 hb2 b0
       skip)
    | (simp only [ta85_67, ta85_68, ta85_69, ta85_70, ta85_71, ta85_72, ta85_73, ta85_74, ta85_75, ta85_76, ta85_77, Result.andThen_ok]))
  go_ret
  exact ⟨rfl, b2⟩
end Go.Proofs.YtdnijfkiebpnpaaGreatDoor
