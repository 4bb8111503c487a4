/- Texts of one kind, one behind the other: each says ahead of itself what it shows. -/
import Derived.Test.YtffbcccbhofbpaaGreatDoorHad
import Derived.BigQuiet
import Derived.Test.YtffbcccbhofbpaaGreatDoorRows
import Derived.ProofKit
import Derived.OpenShut
import Derived.Carry
import Derived.Deep.MidRow
/- Whether a value may be: nodes, edges, texts. -/
namespace Go.Proofs.YtffbcccbhofbpaaGreatDoor
open Go.RowKit

set_option maxRecDepth 4000 in
set_option maxHeartbeats 1600000 in
theorem mayNodeYes (b : Bool) (n : Int) (t x : ByteArray) (p : Option Addr) (len cap : Nat) (d : Int) (w : World) (hn : 0 ≤ n) :
    Calls Tryz.prog 46 #[.agg #[.int .i64 6, .bool b, .int .i64 n, .string t, .string x, .slice p len cap], .int .i64 d] w fun e w' => e = .returned (.bool (bareP b 0 t x len)) ∧ Below w.heap.size w w' := by
  have l0 : Six ((w.alloc (.cells #[.int .i64 6, .bool b, .int .i64 n, .string t, .string x, .slice p len cap] 31)).alloc (.cells #[.int .i64 6, .bool b, .int .i64 n, .string t, .string x, .slice p len cap] 31)) w.heap.size 6 b n t x p len cap := (six_new w rfl).alloc _
  have l1 : Six ((w.alloc (.cells #[.int .i64 6, .bool b, .int .i64 n, .string t, .string x, .slice p len cap] 31)).alloc (.cells #[.int .i64 6, .bool b, .int .i64 n, .string t, .string x, .slice p len cap] 31)) (w.heap.size + 1) 6 b n t x p len cap := six_new _ (by simp)
  have b0 := below2 w (.cells #[.int .i64 6, .bool b, .int .i64 n, .string t, .string x, .slice p len cap] 31) (.cells #[.int .i64 6, .bool b, .int .i64 n, .string t, .string x, .slice p len cap] 31)
  have l00 := six_new (k := 6) (b := b) (n := n) (t := t) (x := x) (p := p) (len := len) (cap := cap) w rfl
  go_enter Tryz.func46, Tryz.ntmps46
  go_wp2_with (first
    | ((with_reducible refine wpList_load6 (.tmp 2) w.heap.size (by assumption) ?_ ?_ ?_ ?_); rfl; rfl; rfl)
    | ((with_reducible refine wpList_load6g (.tmp 5) (w.heap.size + 1) (by assumption) ?_ ?_ ?_ ?_); rfl; rfl; rfl)
    | (go_at_call 47; (with_reducible refine (kindOfAt 6 b n t x _ 94 rfl _).mono ?_); rintro e w2 ⟨rfl, hb2⟩; have k2 := l0.below hb2; have m2 := l1.below hb2; have b2 := below_any b0 hb2 (by have := l0.lt; omega); have z2 : w.heap.size ≤ w2.heap.size := by have := k2.lt; omega
       clear l0 l1 l00 hb2 b0
       have c1 := m2.c2; have f1 := m2.free 2; have q1 := k2.c2; have m3 : Six (w2.setCell ⟨w.heap.size + 1, 2, none⟩ (.int .i64 0)).drew (w.heap.size + 1) _ _ _ _ _ _ _ _ := m2.set2 0; have b3 := (below_set (o := 2) b2 none (.int .i64 0) (show w.heap.size ≤ w.heap.size + 1 by omega) z2).drew; have z3 : w.heap.size ≤ (w2.setCell ⟨w.heap.size + 1, 2, none⟩ (.int .i64 0)).drew.heap.size := by simpa [World.setCell] using z2)
    | (simp only [ta94_113, ta94_91, ta94_93, ta94_94, ta94_95, ta94_97, ta94_98, ta94_99, ta94_100, ta94_102, ta94_103, Result.andThen_ok]))
  go_region_with fail
  all_goals
    go_wp2_with (first
      | ((with_reducible refine wpList_load6g (.tmp 5) (w.heap.size + 1) (by assumption) ?_ ?_ ?_ ?_); rfl; rfl; rfl)
      | (go_at_call 60; (with_reducible refine (isBareAt 6 _ _ _ _ _ _ _ _).mono ?_); rintro e w9 ⟨rfl, hb9⟩; have b9 := below_any b3 hb9 z3))
    go_ret
    exact ⟨rfl, b9⟩
set_option maxRecDepth 4000 in
set_option maxHeartbeats 1600000 in
theorem mayNodeNo (b : Bool) (n : Int) (t x : ByteArray) (p : Option Addr) (len cap : Nat) (d : Int) (w : World) (hn : ¬ 0 ≤ n) :
    Calls Tryz.prog 46 #[.agg #[.int .i64 6, .bool b, .int .i64 n, .string t, .string x, .slice p len cap], .int .i64 d] w fun e w' => e = .returned (.bool (false)) ∧ Below w.heap.size w w' := by
  have l0 : Six ((w.alloc (.cells #[.int .i64 6, .bool b, .int .i64 n, .string t, .string x, .slice p len cap] 31)).alloc (.cells #[.int .i64 6, .bool b, .int .i64 n, .string t, .string x, .slice p len cap] 31)) w.heap.size 6 b n t x p len cap := (six_new w rfl).alloc _
  have l1 : Six ((w.alloc (.cells #[.int .i64 6, .bool b, .int .i64 n, .string t, .string x, .slice p len cap] 31)).alloc (.cells #[.int .i64 6, .bool b, .int .i64 n, .string t, .string x, .slice p len cap] 31)) (w.heap.size + 1) 6 b n t x p len cap := six_new _ (by simp)
  have b0 := below2 w (.cells #[.int .i64 6, .bool b, .int .i64 n, .string t, .string x, .slice p len cap] 31) (.cells #[.int .i64 6, .bool b, .int .i64 n, .string t, .string x, .slice p len cap] 31)
  have l00 := six_new (k := 6) (b := b) (n := n) (t := t) (x := x) (p := p) (len := len) (cap := cap) w rfl
  go_enter Tryz.func46, Tryz.ntmps46
  go_wp2_with (first
    | ((with_reducible refine wpList_load6 (.tmp 2) w.heap.size (by assumption) ?_ ?_ ?_ ?_); rfl; rfl; rfl)
    | ((with_reducible refine wpList_load6g (.tmp 5) (w.heap.size + 1) (by assumption) ?_ ?_ ?_ ?_); rfl; rfl; rfl)
    | (go_at_call 47; (with_reducible refine (kindOfAt 6 b n t x _ 94 rfl _).mono ?_); rintro e w2 ⟨rfl, hb2⟩; have k2 := l0.below hb2; have m2 := l1.below hb2; have b2 := below_any b0 hb2 (by have := l0.lt; omega); have z2 : w.heap.size ≤ w2.heap.size := by have := k2.lt; omega
       clear l0 l1 l00 hb2 b0
       have c1 := m2.c2; have f1 := m2.free 2; have q1 := k2.c2; have m3 : Six (w2.setCell ⟨w.heap.size + 1, 2, none⟩ (.int .i64 0)).drew (w.heap.size + 1) _ _ _ _ _ _ _ _ := m2.set2 0; have b3 := (below_set (o := 2) b2 none (.int .i64 0) (show w.heap.size ≤ w.heap.size + 1 by omega) z2).drew; have z3 : w.heap.size ≤ (w2.setCell ⟨w.heap.size + 1, 2, none⟩ (.int .i64 0)).drew.heap.size := by simpa [World.setCell] using z2)
    | (simp only [ta94_113, ta94_91, ta94_93, ta94_94, ta94_95, ta94_97, ta94_98, ta94_99, ta94_100, ta94_102, ta94_103, Result.andThen_ok]))
  go_region_with fail
  all_goals
    go_wp2_with fail
    go_ret
    exact ⟨rfl, b3⟩
set_option maxRecDepth 4000 in
set_option maxHeartbeats 1600000 in
theorem mayEdgeYes (b : Bool) (n : Int) (t x : ByteArray) (p : Option Addr) (len cap : Nat) (d : Int) (w : World) (hn : 0 ≤ n) :
    Calls Tryz.prog 46 #[.agg #[.int .i64 7, .bool b, .int .i64 n, .string t, .string x, .slice p len cap], .int .i64 d] w fun e w' => e = .returned (.bool (bareP b 0 t x len)) ∧ Below w.heap.size w w' := by
  have l0 : Six ((w.alloc (.cells #[.int .i64 7, .bool b, .int .i64 n, .string t, .string x, .slice p len cap] 31)).alloc (.cells #[.int .i64 7, .bool b, .int .i64 n, .string t, .string x, .slice p len cap] 31)) w.heap.size 7 b n t x p len cap := (six_new w rfl).alloc _
  have l1 : Six ((w.alloc (.cells #[.int .i64 7, .bool b, .int .i64 n, .string t, .string x, .slice p len cap] 31)).alloc (.cells #[.int .i64 7, .bool b, .int .i64 n, .string t, .string x, .slice p len cap] 31)) (w.heap.size + 1) 7 b n t x p len cap := six_new _ (by simp)
  have b0 := below2 w (.cells #[.int .i64 7, .bool b, .int .i64 n, .string t, .string x, .slice p len cap] 31) (.cells #[.int .i64 7, .bool b, .int .i64 n, .string t, .string x, .slice p len cap] 31)
  have l00 := six_new (k := 7) (b := b) (n := n) (t := t) (x := x) (p := p) (len := len) (cap := cap) w rfl
  go_enter Tryz.func46, Tryz.ntmps46
  go_wp2_with (first
    | ((with_reducible refine wpList_load6 (.tmp 2) w.heap.size (by assumption) ?_ ?_ ?_ ?_); rfl; rfl; rfl)
    | ((with_reducible refine wpList_load6g (.tmp 5) (w.heap.size + 1) (by assumption) ?_ ?_ ?_ ?_); rfl; rfl; rfl)
    | (go_at_call 47; (with_reducible refine (kindOfAt 7 b n t x _ 95 rfl _).mono ?_); rintro e w2 ⟨rfl, hb2⟩; have k2 := l0.below hb2; have m2 := l1.below hb2; have b2 := below_any b0 hb2 (by have := l0.lt; omega); have z2 : w.heap.size ≤ w2.heap.size := by have := k2.lt; omega
       clear l0 l1 l00 hb2 b0
       have c1 := m2.c2; have f1 := m2.free 2; have q1 := k2.c2; have m3 : Six (w2.setCell ⟨w.heap.size + 1, 2, none⟩ (.int .i64 0)).drew (w.heap.size + 1) _ _ _ _ _ _ _ _ := m2.set2 0; have b3 := (below_set (o := 2) b2 none (.int .i64 0) (show w.heap.size ≤ w.heap.size + 1 by omega) z2).drew; have z3 : w.heap.size ≤ (w2.setCell ⟨w.heap.size + 1, 2, none⟩ (.int .i64 0)).drew.heap.size := by simpa [World.setCell] using z2)
    | (simp only [ta95_113, ta95_91, ta95_93, ta95_94, ta95_95, ta95_97, ta95_98, ta95_99, ta95_100, ta95_102, ta95_103, Result.andThen_ok]))
  go_region_with fail
  all_goals
    go_wp2_with (first
      | ((with_reducible refine wpList_load6g (.tmp 5) (w.heap.size + 1) (by assumption) ?_ ?_ ?_ ?_); rfl; rfl; rfl)
      | (go_at_call 60; (with_reducible refine (isBareAt 7 _ _ _ _ _ _ _ _).mono ?_); rintro e w9 ⟨rfl, hb9⟩; have b9 := below_any b3 hb9 z3))
    go_ret
    exact ⟨rfl, b9⟩
set_option maxRecDepth 4000 in
set_option maxHeartbeats 1600000 in
theorem mayEdgeNo (b : Bool) (n : Int) (t x : ByteArray) (p : Option Addr) (len cap : Nat) (d : Int) (w : World) (hn : ¬ 0 ≤ n) :
    Calls Tryz.prog 46 #[.agg #[.int .i64 7, .bool b, .int .i64 n, .string t, .string x, .slice p len cap], .int .i64 d] w fun e w' => e = .returned (.bool (false)) ∧ Below w.heap.size w w' := by
  have l0 : Six ((w.alloc (.cells #[.int .i64 7, .bool b, .int .i64 n, .string t, .string x, .slice p len cap] 31)).alloc (.cells #[.int .i64 7, .bool b, .int .i64 n, .string t, .string x, .slice p len cap] 31)) w.heap.size 7 b n t x p len cap := (six_new w rfl).alloc _
  have l1 : Six ((w.alloc (.cells #[.int .i64 7, .bool b, .int .i64 n, .string t, .string x, .slice p len cap] 31)).alloc (.cells #[.int .i64 7, .bool b, .int .i64 n, .string t, .string x, .slice p len cap] 31)) (w.heap.size + 1) 7 b n t x p len cap := six_new _ (by simp)
  have b0 := below2 w (.cells #[.int .i64 7, .bool b, .int .i64 n, .string t, .string x, .slice p len cap] 31) (.cells #[.int .i64 7, .bool b, .int .i64 n, .string t, .string x, .slice p len cap] 31)
  have l00 := six_new (k := 7) (b := b) (n := n) (t := t) (x := x) (p := p) (len := len) (cap := cap) w rfl
  go_enter Tryz.func46, Tryz.ntmps46
  go_wp2_with (first
    | ((with_reducible refine wpList_load6 (.tmp 2) w.heap.size (by assumption) ?_ ?_ ?_ ?_); rfl; rfl; rfl)
    | ((with_reducible refine wpList_load6g (.tmp 5) (w.heap.size + 1) (by assumption) ?_ ?_ ?_ ?_); rfl; rfl; rfl)
    | (go_at_call 47; (with_reducible refine (kindOfAt 7 b n t x _ 95 rfl _).mono ?_); rintro e w2 ⟨rfl, hb2⟩; have k2 := l0.below hb2; have m2 := l1.below hb2; have b2 := below_any b0 hb2 (by have := l0.lt; omega); have z2 : w.heap.size ≤ w2.heap.size := by have := k2.lt; omega
       clear l0 l1 l00 hb2 b0
       have c1 := m2.c2; have f1 := m2.free 2; have q1 := k2.c2; have m3 : Six (w2.setCell ⟨w.heap.size + 1, 2, none⟩ (.int .i64 0)).drew (w.heap.size + 1) _ _ _ _ _ _ _ _ := m2.set2 0; have b3 := (below_set (o := 2) b2 none (.int .i64 0) (show w.heap.size ≤ w.heap.size + 1 by omega) z2).drew; have z3 : w.heap.size ≤ (w2.setCell ⟨w.heap.size + 1, 2, none⟩ (.int .i64 0)).drew.heap.size := by simpa [World.setCell] using z2)
    | (simp only [ta95_113, ta95_91, ta95_93, ta95_94, ta95_95, ta95_97, ta95_98, ta95_99, ta95_100, ta95_102, ta95_103, Result.andThen_ok]))
  go_region_with fail
  all_goals
    go_wp2_with fail
    go_ret
    exact ⟨rfl, b3⟩
set_option maxRecDepth 4000 in
set_option maxHeartbeats 1600000 in
theorem mayTextYes (b : Bool) (n : Int) (t x : ByteArray) (p : Option Addr) (len cap : Nat) (d : Int) (w : World) (hn : (t.size : Int) ≤ 1048576) :
    Calls Tryz.prog 46 #[.agg #[.int .i64 4, .bool b, .int .i64 n, .string t, .string x, .slice p len cap], .int .i64 d] w fun e w' => e = .returned (.bool (bareP b n ⟨#[]⟩ x len)) ∧ Below w.heap.size w w' := by
  have l0 : Six ((w.alloc (.cells #[.int .i64 4, .bool b, .int .i64 n, .string t, .string x, .slice p len cap] 31)).alloc (.cells #[.int .i64 4, .bool b, .int .i64 n, .string t, .string x, .slice p len cap] 31)) w.heap.size 4 b n t x p len cap := (six_new w rfl).alloc _
  have l1 : Six ((w.alloc (.cells #[.int .i64 4, .bool b, .int .i64 n, .string t, .string x, .slice p len cap] 31)).alloc (.cells #[.int .i64 4, .bool b, .int .i64 n, .string t, .string x, .slice p len cap] 31)) (w.heap.size + 1) 4 b n t x p len cap := six_new _ (by simp)
  have b0 := below2 w (.cells #[.int .i64 4, .bool b, .int .i64 n, .string t, .string x, .slice p len cap] 31) (.cells #[.int .i64 4, .bool b, .int .i64 n, .string t, .string x, .slice p len cap] 31)
  have l00 := six_new (k := 4) (b := b) (n := n) (t := t) (x := x) (p := p) (len := len) (cap := cap) w rfl
  go_enter Tryz.func46, Tryz.ntmps46
  go_wp2_with (first
    | ((with_reducible refine wpList_load6 (.tmp 2) w.heap.size (by assumption) ?_ ?_ ?_ ?_); rfl; rfl; rfl)
    | ((with_reducible refine wpList_load6g (.tmp 5) (w.heap.size + 1) (by assumption) ?_ ?_ ?_ ?_); rfl; rfl; rfl)
    | (go_at_call 47; (with_reducible refine (kindOfAt 4 b n t x _ 98 rfl _).mono ?_); rintro e w2 ⟨rfl, hb2⟩; have k2 := l0.below hb2; have m2 := l1.below hb2; have b2 := below_any b0 hb2 (by have := l0.lt; omega); have z2 : w.heap.size ≤ w2.heap.size := by have := k2.lt; omega
       clear l0 l1 l00 hb2 b0
       have c1 := m2.c3; have f1 := m2.free 3; have q1 := k2.c3; have m3 : Six (w2.setCell ⟨w.heap.size + 1, 3, none⟩ (.string ⟨#[]⟩)).drew (w.heap.size + 1) _ _ _ _ _ _ _ _ := m2.set3 ⟨#[]⟩; have b3 := (below_set (o := 3) b2 none (.string ⟨#[]⟩) (show w.heap.size ≤ w.heap.size + 1 by omega) z2).drew; have z3 : w.heap.size ≤ (w2.setCell ⟨w.heap.size + 1, 3, none⟩ (.string ⟨#[]⟩)).drew.heap.size := by simpa [World.setCell] using z2)
    | (simp only [ta98_113, ta98_91, ta98_93, ta98_94, ta98_95, ta98_97, ta98_98, ta98_99, ta98_100, ta98_102, ta98_103, Result.andThen_ok]))
  go_region_with fail
  all_goals
    go_wp2_with (first
      | ((with_reducible refine wpList_load6g (.tmp 5) (w.heap.size + 1) (by assumption) ?_ ?_ ?_ ?_); rfl; rfl; rfl)
      | (go_at_call 60; (with_reducible refine (isBareAt 4 _ _ _ _ _ _ _ _).mono ?_); rintro e w9 ⟨rfl, hb9⟩; have b9 := below_any b3 hb9 z3))
    go_ret
    exact ⟨rfl, b9⟩
set_option maxRecDepth 4000 in
set_option maxHeartbeats 1600000 in
theorem mayTextNo (b : Bool) (n : Int) (t x : ByteArray) (p : Option Addr) (len cap : Nat) (d : Int) (w : World) (hn : ¬ (t.size : Int) ≤ 1048576) :
    Calls Tryz.prog 46 #[.agg #[.int .i64 4, .bool b, .int .i64 n, .string t, .string x, .slice p len cap], .int .i64 d] w fun e w' => e = .returned (.bool (false)) ∧ Below w.heap.size w w' := by
  have l0 : Six ((w.alloc (.cells #[.int .i64 4, .bool b, .int .i64 n, .string t, .string x, .slice p len cap] 31)).alloc (.cells #[.int .i64 4, .bool b, .int .i64 n, .string t, .string x, .slice p len cap] 31)) w.heap.size 4 b n t x p len cap := (six_new w rfl).alloc _
  have l1 : Six ((w.alloc (.cells #[.int .i64 4, .bool b, .int .i64 n, .string t, .string x, .slice p len cap] 31)).alloc (.cells #[.int .i64 4, .bool b, .int .i64 n, .string t, .string x, .slice p len cap] 31)) (w.heap.size + 1) 4 b n t x p len cap := six_new _ (by simp)
  have b0 := below2 w (.cells #[.int .i64 4, .bool b, .int .i64 n, .string t, .string x, .slice p len cap] 31) (.cells #[.int .i64 4, .bool b, .int .i64 n, .string t, .string x, .slice p len cap] 31)
  have l00 := six_new (k := 4) (b := b) (n := n) (t := t) (x := x) (p := p) (len := len) (cap := cap) w rfl
  go_enter Tryz.func46, Tryz.ntmps46
  go_wp2_with (first
    | ((with_reducible refine wpList_load6 (.tmp 2) w.heap.size (by assumption) ?_ ?_ ?_ ?_); rfl; rfl; rfl)
    | ((with_reducible refine wpList_load6g (.tmp 5) (w.heap.size + 1) (by assumption) ?_ ?_ ?_ ?_); rfl; rfl; rfl)
    | (go_at_call 47; (with_reducible refine (kindOfAt 4 b n t x _ 98 rfl _).mono ?_); rintro e w2 ⟨rfl, hb2⟩; have k2 := l0.below hb2; have m2 := l1.below hb2; have b2 := below_any b0 hb2 (by have := l0.lt; omega); have z2 : w.heap.size ≤ w2.heap.size := by have := k2.lt; omega
       clear l0 l1 l00 hb2 b0
       have c1 := m2.c3; have f1 := m2.free 3; have q1 := k2.c3; have m3 : Six (w2.setCell ⟨w.heap.size + 1, 3, none⟩ (.string ⟨#[]⟩)).drew (w.heap.size + 1) _ _ _ _ _ _ _ _ := m2.set3 ⟨#[]⟩; have b3 := (below_set (o := 3) b2 none (.string ⟨#[]⟩) (show w.heap.size ≤ w.heap.size + 1 by omega) z2).drew; have z3 : w.heap.size ≤ (w2.setCell ⟨w.heap.size + 1, 3, none⟩ (.string ⟨#[]⟩)).drew.heap.size := by simpa [World.setCell] using z2)
    | (simp only [ta98_113, ta98_91, ta98_93, ta98_94, ta98_95, ta98_97, ta98_98, ta98_99, ta98_100, ta98_102, ta98_103, Result.andThen_ok]))
  go_region_with fail
  all_goals
    go_wp2_with fail
    go_ret
    exact ⟨rfl, b3⟩
end Go.Proofs.YtffbcccbhofbpaaGreatDoor

/- Whether a value may be: literals. -/
namespace Go.Proofs.YtffbcccbhofbpaaGreatDoor
open Go.RowKit

set_option maxRecDepth 4000 in
set_option maxHeartbeats 1600000 in
theorem mayLitYes (b : Bool) (n : Int) (t x : ByteArray) (p : Option Addr) (len cap : Nat) (d : Int) (w : World) (hs : x.size ≤ maxLen) (hn : (t.size : Int) ≤ 1048576) (h : addrP x = true) :
    Calls Tryz.prog 46 #[.agg #[.int .i64 10, .bool b, .int .i64 n, .string t, .string x, .slice p len cap], .int .i64 d] w fun e w' => e = .returned (.bool (bareP b n ⟨#[]⟩ ⟨#[]⟩ len)) ∧ Below w.heap.size w w' := by
  have l0 : Six ((w.alloc (.cells #[.int .i64 10, .bool b, .int .i64 n, .string t, .string x, .slice p len cap] 31)).alloc (.cells #[.int .i64 10, .bool b, .int .i64 n, .string t, .string x, .slice p len cap] 31)) w.heap.size 10 b n t x p len cap := (six_new w rfl).alloc _
  have l1 : Six ((w.alloc (.cells #[.int .i64 10, .bool b, .int .i64 n, .string t, .string x, .slice p len cap] 31)).alloc (.cells #[.int .i64 10, .bool b, .int .i64 n, .string t, .string x, .slice p len cap] 31)) (w.heap.size + 1) 10 b n t x p len cap := six_new _ (by simp)
  have b0 := below2 w (.cells #[.int .i64 10, .bool b, .int .i64 n, .string t, .string x, .slice p len cap] 31) (.cells #[.int .i64 10, .bool b, .int .i64 n, .string t, .string x, .slice p len cap] 31)
  have l00 := six_new (k := 10) (b := b) (n := n) (t := t) (x := x) (p := p) (len := len) (cap := cap) w rfl
  go_enter Tryz.func46, Tryz.ntmps46
  go_wp2_with (first
    | ((with_reducible refine wpList_load6 (.tmp 2) w.heap.size (by assumption) ?_ ?_ ?_ ?_); rfl; rfl; rfl)
    | ((with_reducible refine wpList_load6g (.tmp 5) (w.heap.size + 1) (by assumption) ?_ ?_ ?_ ?_); rfl; rfl; rfl)
    | (go_at_call 47; (with_reducible refine (kindOfAt 10 b n t x _ 102 rfl _).mono ?_); rintro e w2 ⟨rfl, hb2⟩; have k2 := l0.below hb2; have m2 := l1.below hb2; have b2 := below_any b0 hb2 (by have := l0.lt; omega); have z2 : w.heap.size ≤ w2.heap.size := by have := k2.lt; omega
       clear l0 l1 l00 hb2 b0
       have c3 := k2.c3; have c4 := k2.c4)
    | (simp only [ta102_113, ta102_91, ta102_93, ta102_94, ta102_95, ta102_97, ta102_98, ta102_99, ta102_100, ta102_102, ta102_103, Result.andThen_ok])
    | (go_at_call 57; (with_reducible refine (addrAs x _ h _ hs).mono ?_); rintro e w3 ⟨rfl, hb3⟩; have b3 := below_any b2 hb3 z2; have m3 := m2.below hb3; have z3 : w.heap.size ≤ w3.heap.size := (by have := m3.lt; omega); have e3 := m3.c3; have f3 := m3.free 3; have n3 := m3.set3 ⟨#[]⟩; have e4 := n3.c4; have f4 := n3.free 4; have n4 := n3.set4 ⟨#[]⟩; have y3 : w.heap.size ≤ (w3.setCell ⟨w.heap.size + 1, 3, none⟩ (.string ⟨#[]⟩)).heap.size := (by have := n3.lt; omega); have y4 : w.heap.size ≤ ((w3.setCell ⟨w.heap.size + 1, 3, none⟩ (.string ⟨#[]⟩)).setCell ⟨w.heap.size + 1, 4, none⟩ (.string ⟨#[]⟩)).heap.size := (by have := n4.lt; omega); have b4 := below_set (o := 4) (below_set (o := 3) b3 none (.string ⟨#[]⟩) (show w.heap.size ≤ w.heap.size + 1 by omega) z3) none (.string ⟨#[]⟩) (show w.heap.size ≤ w.heap.size + 1 by omega) y3)
    | (go_at_call 60; (with_reducible refine (isBareAt 10 _ _ _ _ _ _ _ _).mono ?_); rintro e w9 ⟨rfl, hb9⟩; have b9 := below_any b4 hb9 y4))
  go_ret
  exact ⟨rfl, b9⟩
set_option maxRecDepth 4000 in
set_option maxHeartbeats 1600000 in
theorem mayLitNo (b : Bool) (n : Int) (t x : ByteArray) (p : Option Addr) (len cap : Nat) (d : Int) (w : World) (hs : x.size ≤ maxLen) (hn : (t.size : Int) ≤ 1048576) (h : addrP x = false) :
    Calls Tryz.prog 46 #[.agg #[.int .i64 10, .bool b, .int .i64 n, .string t, .string x, .slice p len cap], .int .i64 d] w fun e w' => e = .returned (.bool (false)) ∧ Below w.heap.size w w' := by
  have l0 : Six ((w.alloc (.cells #[.int .i64 10, .bool b, .int .i64 n, .string t, .string x, .slice p len cap] 31)).alloc (.cells #[.int .i64 10, .bool b, .int .i64 n, .string t, .string x, .slice p len cap] 31)) w.heap.size 10 b n t x p len cap := (six_new w rfl).alloc _
  have l1 : Six ((w.alloc (.cells #[.int .i64 10, .bool b, .int .i64 n, .string t, .string x, .slice p len cap] 31)).alloc (.cells #[.int .i64 10, .bool b, .int .i64 n, .string t, .string x, .slice p len cap] 31)) (w.heap.size + 1) 10 b n t x p len cap := six_new _ (by simp)
  have b0 := below2 w (.cells #[.int .i64 10, .bool b, .int .i64 n, .string t, .string x, .slice p len cap] 31) (.cells #[.int .i64 10, .bool b, .int .i64 n, .string t, .string x, .slice p len cap] 31)
  have l00 := six_new (k := 10) (b := b) (n := n) (t := t) (x := x) (p := p) (len := len) (cap := cap) w rfl
  go_enter Tryz.func46, Tryz.ntmps46
  go_wp2_with (first
    | ((with_reducible refine wpList_load6 (.tmp 2) w.heap.size (by assumption) ?_ ?_ ?_ ?_); rfl; rfl; rfl)
    | ((with_reducible refine wpList_load6g (.tmp 5) (w.heap.size + 1) (by assumption) ?_ ?_ ?_ ?_); rfl; rfl; rfl)
    | (go_at_call 47; (with_reducible refine (kindOfAt 10 b n t x _ 102 rfl _).mono ?_); rintro e w2 ⟨rfl, hb2⟩; have k2 := l0.below hb2; have m2 := l1.below hb2; have b2 := below_any b0 hb2 (by have := l0.lt; omega); have z2 : w.heap.size ≤ w2.heap.size := by have := k2.lt; omega
       clear l0 l1 l00 hb2 b0
       have c3 := k2.c3; have c4 := k2.c4)
    | (simp only [ta102_113, ta102_91, ta102_93, ta102_94, ta102_95, ta102_97, ta102_98, ta102_99, ta102_100, ta102_102, ta102_103, Result.andThen_ok])
    | (go_at_call 57; (with_reducible refine (addrAs x _ h _ hs).mono ?_); rintro e w3 ⟨rfl, hb3⟩; have b3 := below_any b2 hb3 z2; have m3 := m2.below hb3; have z3 : w.heap.size ≤ w3.heap.size := (by have := m3.lt; omega); have e3 := m3.c3; have f3 := m3.free 3; have n3 := m3.set3 ⟨#[]⟩; have e4 := n3.c4; have f4 := n3.free 4; have n4 := n3.set4 ⟨#[]⟩; have y3 : w.heap.size ≤ (w3.setCell ⟨w.heap.size + 1, 3, none⟩ (.string ⟨#[]⟩)).heap.size := (by have := n3.lt; omega); have y4 : w.heap.size ≤ ((w3.setCell ⟨w.heap.size + 1, 3, none⟩ (.string ⟨#[]⟩)).setCell ⟨w.heap.size + 1, 4, none⟩ (.string ⟨#[]⟩)).heap.size := (by have := n4.lt; omega); have b4 := below_set (o := 4) (below_set (o := 3) b3 none (.string ⟨#[]⟩) (show w.heap.size ≤ w.heap.size + 1 by omega) z3) none (.string ⟨#[]⟩) (show w.heap.size ≤ w.heap.size + 1 by omega) y3))
  go_ret
  exact ⟨rfl, b4⟩
set_option maxRecDepth 4000 in
set_option maxHeartbeats 1600000 in
theorem mayLitLong (b : Bool) (n : Int) (t x : ByteArray) (p : Option Addr) (len cap : Nat) (d : Int) (w : World) (hn : ¬ (t.size : Int) ≤ 1048576) :
    Calls Tryz.prog 46 #[.agg #[.int .i64 10, .bool b, .int .i64 n, .string t, .string x, .slice p len cap], .int .i64 d] w fun e w' => e = .returned (.bool (false)) ∧ Below w.heap.size w w' := by
  have l0 : Six ((w.alloc (.cells #[.int .i64 10, .bool b, .int .i64 n, .string t, .string x, .slice p len cap] 31)).alloc (.cells #[.int .i64 10, .bool b, .int .i64 n, .string t, .string x, .slice p len cap] 31)) w.heap.size 10 b n t x p len cap := (six_new w rfl).alloc _
  have l1 : Six ((w.alloc (.cells #[.int .i64 10, .bool b, .int .i64 n, .string t, .string x, .slice p len cap] 31)).alloc (.cells #[.int .i64 10, .bool b, .int .i64 n, .string t, .string x, .slice p len cap] 31)) (w.heap.size + 1) 10 b n t x p len cap := six_new _ (by simp)
  have b0 := below2 w (.cells #[.int .i64 10, .bool b, .int .i64 n, .string t, .string x, .slice p len cap] 31) (.cells #[.int .i64 10, .bool b, .int .i64 n, .string t, .string x, .slice p len cap] 31)
  have l00 := six_new (k := 10) (b := b) (n := n) (t := t) (x := x) (p := p) (len := len) (cap := cap) w rfl
  go_enter Tryz.func46, Tryz.ntmps46
  go_wp2_with (first
    | ((with_reducible refine wpList_load6 (.tmp 2) w.heap.size (by assumption) ?_ ?_ ?_ ?_); rfl; rfl; rfl)
    | ((with_reducible refine wpList_load6g (.tmp 5) (w.heap.size + 1) (by assumption) ?_ ?_ ?_ ?_); rfl; rfl; rfl)
    | (go_at_call 47; (with_reducible refine (kindOfAt 10 b n t x _ 102 rfl _).mono ?_); rintro e w2 ⟨rfl, hb2⟩; have k2 := l0.below hb2; have m2 := l1.below hb2; have b2 := below_any b0 hb2 (by have := l0.lt; omega); have z2 : w.heap.size ≤ w2.heap.size := by have := k2.lt; omega
       clear l0 l1 l00 hb2 b0
       have c3 := k2.c3; have c4 := k2.c4; have e3 := m2.c3; have f3 := m2.free 3; have n3 := m2.set3 ⟨#[]⟩; have e4 := n3.c4; have f4 := n3.free 4; have n4 := n3.set4 ⟨#[]⟩; have y3 : w.heap.size ≤ (w2.setCell ⟨w.heap.size + 1, 3, none⟩ (.string ⟨#[]⟩)).heap.size := (by have := n3.lt; omega); have y4 : w.heap.size ≤ ((w2.setCell ⟨w.heap.size + 1, 3, none⟩ (.string ⟨#[]⟩)).setCell ⟨w.heap.size + 1, 4, none⟩ (.string ⟨#[]⟩)).heap.size := (by have := n4.lt; omega); have b4 := below_set (o := 4) (below_set (o := 3) b2 none (.string ⟨#[]⟩) (show w.heap.size ≤ w.heap.size + 1 by omega) z2) none (.string ⟨#[]⟩) (show w.heap.size ≤ w.heap.size + 1 by omega) y3)
    | (simp only [ta102_113, ta102_91, ta102_93, ta102_94, ta102_95, ta102_97, ta102_98, ta102_99, ta102_100, ta102_102, ta102_103, Result.andThen_ok]))
  go_ret
  exact ⟨rfl, b4⟩
end Go.Proofs.YtffbcccbhofbpaaGreatDoor

/- Whether a value may be, of every kind, given what its list's elements answer. -/
namespace Go.Proofs.YtffbcccbhofbpaaGreatDoor
open Go.RowKit

/-- Whether a value may be, by its own fields; r: whether its list's elements may be. -/
def fitsP (k : Int) (b : Bool) (n : Int) (t x : ByteArray) (len : Nat) (r : Bool) : Bool :=
  if k = 0 then bareP b n t x len else if k = 1 then bareP false n t x len else if k = 2 then bareP b 0 t x len
  else if k = 3 then chk t.data.toList && bareP b n ⟨#[]⟩ x len
  else if k = 4 then decide (t.size ≤ 1048576) && bareP b n ⟨#[]⟩ x len
  else if k = 5 then r && bareP b n t x 0
  else if k = 6 ∨ k = 7 then decide (0 ≤ n) && bareP b 0 t x len
  else if k = 8 then addrP t && bareP b n ⟨#[]⟩ x len
  else if k = 9 then nameP t && bareP b n ⟨#[]⟩ x len
  else if k = 10 then decide (t.size ≤ 1048576) && (addrP x && bareP b n ⟨#[]⟩ ⟨#[]⟩ len)
  else false

theorem mayBeOf (k : Int) (b : Bool) (n : Int) (t x : ByteArray) (p : Option Addr) (len cap : Nat) (d : Int) (w : World) (r : Bool) (hG : Gd w) (ht : t.size < 4294967281) (hx : x.size < 4294967281) (d0 : 0 ≤ d) (d1 : d ≤ 1000)
    (hc : k = 5 → ∀ W, Below w.heap.size w W → Calls Tryz.prog 59 #[.slice p len cap, .int .i64 (d + 1)] W fun e w' => e = .returned (.bool r) ∧ Below W.heap.size W w') :
    Calls Tryz.prog 46 #[.agg #[.int .i64 k, .bool b, .int .i64 n, .string t, .string x, .slice p len cap], .int .i64 d] w fun e w' => e = .returned (.bool (fitsP k b n t x len r)) ∧ Below w.heap.size w w' := by
  have st : t.size ≤ maxLen := by unfold maxLen; omega
  have sx : x.size ≤ maxLen := by unfold maxLen; omega
  unfold fitsP
  split
  case isTrue h => subst h; exact mayNull b n t x p len cap d w
  split
  case isTrue h => subst h; exact mayTruth b n t x p len cap d w
  split
  case isTrue h => subst h; exact mayWhole b n t x p len cap d w
  split
  case isTrue h =>
    subst h
    by_cases e : chk t.data.toList = true
    · rw [e]; exact mayExactYes b n t x p len cap d w hG ht e
    · have e : chk t.data.toList = false := by simpa using e
      rw [e]; exact mayExactNo b n t x p len cap d w hG ht e
  split
  case isTrue h =>
    subst h
    by_cases e : t.size ≤ 1048576
    · rw [decide_eq_true e]; exact mayTextYes b n t x p len cap d w (by omega)
    · rw [decide_eq_false e]; exact mayTextNo b n t x p len cap d w (by omega)
  split
  case isTrue h =>
    subst h
    cases r with
    | true => exact mayListYes b n t x p len cap d w d0 d1 (hc rfl)
    | false => exact mayListNo b n t x p len cap d w d0 d1 (hc rfl)
  split
  case isTrue h =>
    rcases h with rfl | rfl
    · by_cases e : 0 ≤ n
      · rw [decide_eq_true e]; exact mayNodeYes b n t x p len cap d w e
      · rw [decide_eq_false e]; exact mayNodeNo b n t x p len cap d w e
    · by_cases e : 0 ≤ n
      · rw [decide_eq_true e]; exact mayEdgeYes b n t x p len cap d w e
      · rw [decide_eq_false e]; exact mayEdgeNo b n t x p len cap d w e
  split
  case isTrue h =>
    subst h
    by_cases e : addrP t = true
    · rw [e]; exact mayIriYes b n t x p len cap d w st e
    · have e : addrP t = false := by simpa using e
      rw [e]; exact mayIriNo b n t x p len cap d w st e
  split
  case isTrue h =>
    subst h
    by_cases e : nameP t = true
    · rw [e]; exact mayBlankYes b n t x p len cap d w st e
    · have e : nameP t = false := by simpa using e
      rw [e]; exact mayBlankNo b n t x p len cap d w st e
  split
  case isTrue h =>
    subst h
    by_cases e : t.size ≤ 1048576
    · rw [decide_eq_true e]
      by_cases e2 : addrP x = true
      · rw [e2]; exact mayLitYes b n t x p len cap d w sx (by omega) e2
      · have e2 : addrP x = false := by simpa using e2
        rw [e2]; exact mayLitNo b n t x p len cap d w sx (by omega) e2
    · rw [decide_eq_false e]; exact mayLitLong b n t x p len cap d w (by omega)
  have hk : kindT k = 115 := by
    unfold kindT
    simp only [*, if_false]
    rename_i h67 _ _ _
    have a6 : k ≠ 6 := fun e => h67 (.inl e)
    have a7 : k ≠ 7 := fun e => h67 (.inr e)
    simp only [a6, a7, if_false]
  exact mayStranger k b n t x p len cap d w hk

end Go.Proofs.YtffbcccbhofbpaaGreatDoor

/- Values in one another: the model, where one lies in memory, which may be. -/
namespace Go.Proofs.YtffbcccbhofbpaaGreatDoor
open Go.RowKit

/-- A value: kind, bool, number, text, extra, list. -/
inductive Val where
  | mk (k : Int) (b : Bool) (n : Int) (t x : ByteArray) (l : List Val)

/-- What is small enough, and a number that fits. -/
structure Fine (n : Int) (t x : ByteArray) (len : Nat) : Prop where
  ht : t.size ≤ 2097152
  hx : x.size ≤ 2097152
  hn : len ≤ 2097152
  lo : -9223372036854775808 ≤ n
  hi : n ≤ 9223372036854775807

mutual
/-- A value's six cells lie from off on. -/
def HoldsOne (w : World) (g off : Nat) : Val → Prop
  | .mk k b n t x l => w.cell? ⟨g, off, none⟩ = some (.int .i64 k) ∧ w.cell? ⟨g, off + 1, none⟩ = some (.bool b) ∧ w.cell? ⟨g, off + 2, none⟩ = some (.int .i64 n) ∧
    w.cell? ⟨g, off + 3, none⟩ = some (.string t) ∧ w.cell? ⟨g, off + 4, none⟩ = some (.string x) ∧ Fine n t x l.length ∧
    ∃ L, w.cell? ⟨g, off + 5, none⟩ = some L ∧ Held w L l
/-- A slice whose elements are these. -/
def Held (w : World) (L : Value) : List Val → Prop
  | [] => ∃ p cap, L = .slice p 0 cap
  | v :: r => ∃ g off cap, L = .slice (some ⟨g, off, none⟩) (r.length + 1) cap ∧ HoldsOne w g off v ∧ Holds w g (off + 6) r
/-- Values one behind the other from off on. -/
def Holds (w : World) (g off : Nat) : List Val → Prop
  | [] => True
  | v :: r => HoldsOne w g off v ∧ Holds w g (off + 6) r
end

mutual
theorem HoldsOne.below {w w' : World} {g off : Nat} : (v : Val) → HoldsOne w g off v → Below w.heap.size w w' → HoldsOne w' g off v
  | .mk _ _ _ _ _ l, h, q => by
    unfold HoldsOne at h ⊢
    obtain ⟨h0, h1, h2, h3, h4, hf, L, h5, hl⟩ := h
    have hg := World.block_lt_of_cell? w _ h0
    exact ⟨(q.cell (p := ⟨g, off, none⟩) hg).trans h0, (q.cell (p := ⟨g, off + 1, none⟩) hg).trans h1, (q.cell (p := ⟨g, off + 2, none⟩) hg).trans h2, (q.cell (p := ⟨g, off + 3, none⟩) hg).trans h3,
      (q.cell (p := ⟨g, off + 4, none⟩) hg).trans h4, hf, L, (q.cell (p := ⟨g, off + 5, none⟩) hg).trans h5, Held.below l hl q⟩
theorem Held.below {w w' : World} {L : Value} : (l : List Val) → Held w L l → Below w.heap.size w w' → Held w' L l
  | [], h, _ => by
    unfold Held at h ⊢
    exact h
  | v :: r, h, q => by
    unfold Held at h ⊢
    obtain ⟨g, off, cap, e, hv, hr⟩ := h
    exact ⟨g, off, cap, e, HoldsOne.below v hv q, Holds.below r hr q⟩
theorem Holds.below {w w' : World} {g off : Nat} : (l : List Val) → Holds w g off l → Below w.heap.size w w' → Holds w' g off l
  | [], _, _ => by
    unfold Holds
    trivial
  | v :: r, h, q => by
    unfold Holds at h ⊢
    exact ⟨HoldsOne.below v h.1 q, Holds.below r h.2 q⟩
end

mutual
/-- Whether a value may be that lies in d lists. -/
def mayP : Val → Nat → Bool
  | .mk k b n t x l, d => fitsP k b n t x l.length (decide (l.length ≤ 4096) && decide (d + 1 ≤ 60) && eachP l (d + 1))
def eachP : List Val → Nat → Bool
  | [], _ => true
  | v :: r, d => mayP v d && eachP r d
end
end Go.Proofs.YtffbcccbhofbpaaGreatDoor

/- A list of values that came in: where it lies, and what it is. -/
namespace Go.Proofs.YtffbcccbhofbpaaGreatDoor
open Go.RowKit Go.ChangeShapes
variable {H : Type} {enc : TypeId × Value → H}

theorem mapM_cells {w : World} {a : Addr} {m : Nat} {cs : List Value} (h : w.cells? 0 a m = some cs) : cs.length = m ∧ ∀ j, j < m → w.cell? (a.add j) = cs[j]? := by
  unfold World.cells? at h
  rw [if_pos (Nat.zero_le _)] at h
  have hl := mapM_some_length h
  rw [List.length_range] at hl
  refine ⟨hl, fun j hj => ?_⟩
  exact mapM_some_get h j j (by rw [List.getElem?_range hj])
theorem add_none (g off i : Nat) : (Addr.mk g off none).add i = ⟨g, off + i, none⟩ := by unfold Addr.add; split <;> simp_all
theorem list6 {α : Type} {l : List α} (h : l.length = 6) : ∃ a b c d e f, l = [a, b, c, d, e, f] := by
  match l, h with
  | [a, b, c, d, e, f], _ => exact ⟨a, b, c, d, e, f, rfl⟩
theorem bulk_mem {d : DataW H} : {l : List (DataW H)} → d ∈ l → Rows.uptoBulk d ≤ Rows.uptoBulkAll l
  | [], h => absurd h (by simp)
  | e :: r, h => by
    unfold Rows.uptoBulkAll
    rcases List.mem_cons.1 h with h | h
    · rw [h]; omega
    · have := bulk_mem h; omega
theorem bulk_pos (d : DataW H) : 1 ≤ Rows.uptoBulk d := by
  cases d with
  | lit l => cases l <;> simp [Rows.uptoBulk]
  | _ => simp [Rows.uptoBulk]
theorem bulk_len : (l : List (DataW H)) → l.length ≤ Rows.uptoBulkAll l
  | [] => by simp
  | e :: r => by
    unfold Rows.uptoBulkAll
    have := bulk_len r
    have := bulk_pos e
    simp only [List.length_cons]
    omega

theorem value_of_trod {W : World} {n : Nat} {cs : List Value} {y : DataW H × List MemPlace} (h : DataW.trod enc Tryz.prog W 0 (fun _ => true) true n 31 cs = some y) :
    ∃ n' k b m t x L yl, n = n' + 1 ∧ cs = [.int .i64 k, .bool b, .int .i64 m, .string t, .string x, L] ∧ DataW.trod enc Tryz.prog W 0 (fun _ => true) true n' 22 [L] = some yl ∧
      t.size ≤ Rows.uptoBulk y.1 ∧ x.size ≤ Rows.uptoBulk y.1 ∧ Rows.uptoBulk yl.1 ≤ Rows.uptoBulk y.1 ∧ (Lit.int .i64 m).wf = true := by
  obtain ⟨xs, n', rfl, rfl, hl, hlen, hf⟩ := DataW.trod_struct Tryz.underlying31 h
  obtain ⟨c0, c1, c2, c3, c4, c5, rfl⟩ := list6 (hl.trans (by kernel_rfl : Tryz.prog.cellsOf 31 = 6))
  obtain ⟨y0, y1, y2, y3, y4, y5, rfl⟩ := list6 (hlen.trans rfl)
  have e1 : Tryz.prog.cellsOf 3 = 1 := by kernel_rfl
  have e2 : Tryz.prog.cellsOf 4 = 1 := by kernel_rfl
  have e3 : Tryz.prog.cellsOf 2 = 1 := by kernel_rfl
  have e4 : Tryz.prog.cellsOf 9 = 1 := by kernel_rfl
  have e5 : Tryz.prog.cellsOf 22 = 1 := by kernel_rfl
  have h0 : DataW.trod enc Tryz.prog W 0 (fun _ => true) true n' 3 (([c0, c1, c2, c3, c4, c5].drop 0).take (Tryz.prog.cellsOf 3)) = [y0, y1, y2, y3, y4, y5][0]? := hf 0 _ rfl
  have h1 : DataW.trod enc Tryz.prog W 0 (fun _ => true) true n' 4 (([c0, c1, c2, c3, c4, c5].drop 1).take (Tryz.prog.cellsOf 4)) = [y0, y1, y2, y3, y4, y5][1]? := hf 1 _ rfl
  have h2 : DataW.trod enc Tryz.prog W 0 (fun _ => true) true n' 2 (([c0, c1, c2, c3, c4, c5].drop 2).take (Tryz.prog.cellsOf 2)) = [y0, y1, y2, y3, y4, y5][2]? := hf 2 _ rfl
  have h3 : DataW.trod enc Tryz.prog W 0 (fun _ => true) true n' 9 (([c0, c1, c2, c3, c4, c5].drop 3).take (Tryz.prog.cellsOf 9)) = [y0, y1, y2, y3, y4, y5][3]? := hf 3 _ rfl
  have h4 : DataW.trod enc Tryz.prog W 0 (fun _ => true) true n' 9 (([c0, c1, c2, c3, c4, c5].drop 4).take (Tryz.prog.cellsOf 9)) = [y0, y1, y2, y3, y4, y5][4]? := hf 4 _ rfl
  have h5 : DataW.trod enc Tryz.prog W 0 (fun _ => true) true n' 22 (([c0, c1, c2, c3, c4, c5].drop 5).take (Tryz.prog.cellsOf 22)) = [y0, y1, y2, y3, y4, y5][5]? := hf 5 _ rfl
  rw [e1] at h0
  rw [e2] at h1
  rw [e3] at h2
  rw [e4] at h3 h4
  rw [e5] at h5
  replace h0 : DataW.trod enc Tryz.prog W 0 (fun _ => true) true n' 3 [c0] = some y0 := h0
  replace h1 : DataW.trod enc Tryz.prog W 0 (fun _ => true) true n' 4 [c1] = some y1 := h1
  replace h2 : DataW.trod enc Tryz.prog W 0 (fun _ => true) true n' 2 [c2] = some y2 := h2
  replace h3 : DataW.trod enc Tryz.prog W 0 (fun _ => true) true n' 9 [c3] = some y3 := h3
  replace h4 : DataW.trod enc Tryz.prog W 0 (fun _ => true) true n' 9 [c4] = some y4 := h4
  replace h5 : DataW.trod enc Tryz.prog W 0 (fun _ => true) true n' 22 [c5] = some y5 := h5
  obtain ⟨k, a0, _, _⟩ := DataW.trod_int Tryz.underlying3 h0
  obtain ⟨b, a1, _⟩ := DataW.trod_bool Tryz.underlying4 h1
  obtain ⟨m, a2, _, wm⟩ := DataW.trod_int Tryz.underlying2 h2
  obtain ⟨t, a3, z3, _⟩ := DataW.trod_string Tryz.underlying9 h3
  obtain ⟨x, a4, z4, _⟩ := DataW.trod_string Tryz.underlying9 h4
  simp only [List.cons.injEq, and_true] at a0 a1 a2 a3 a4
  subst a0 a1 a2 a3 a4
  refine ⟨n', k, b, m, t, x, c5, y5, rfl, rfl, h5, ?_, ?_, ?_, wm⟩
  · have : Rows.uptoBulk y3.1 ≤ Rows.uptoBulkAll ([y0, y1, y2, y3, y4, y5].map (·.1)) := bulk_mem (by simp)
    rw [z3] at this
    have e : Rows.uptoBulk (.lit (.string t.data.toList) : DataW H) = t.data.toList.length + 1 := rfl
    have e' : t.data.toList.length = t.size := Array.length_toList
    show t.size ≤ Rows.uptoBulkAll _ + 1
    rw [e, e', ← z3] at this
    omega
  · have : Rows.uptoBulk y4.1 ≤ Rows.uptoBulkAll ([y0, y1, y2, y3, y4, y5].map (·.1)) := bulk_mem (by simp)
    rw [z4] at this
    have e : Rows.uptoBulk (.lit (.string x.data.toList) : DataW H) = x.data.toList.length + 1 := rfl
    have e' : x.data.toList.length = x.size := Array.length_toList
    show x.size ≤ Rows.uptoBulkAll _ + 1
    rw [e, e', ← z4] at this
    omega
  · have : Rows.uptoBulk y5.1 ≤ Rows.uptoBulkAll ([y0, y1, y2, y3, y4, y5].map (·.1)) := bulk_mem (by simp)
    show Rows.uptoBulk y5.1 ≤ Rows.uptoBulkAll _ + 1
    omega
theorem i64_wf {m : Int} (h : (Lit.int .i64 m).wf = true) : -9223372036854775808 ≤ m ∧ m ≤ 9223372036854775807 := by
  have := bounds_i64 h
  omega

set_option maxRecDepth 20000 in
theorem vals_of_trod {W : World} (B : Nat) (hBB : B ≤ 2097152) : ∀ (N n : Nat), n ≤ N → ∀ (L : Value) (y : DataW H × List MemPlace), DataW.trod enc Tryz.prog W 0 (fun _ => true) true n 22 [L] = some y → Rows.uptoBulk y.1 ≤ B → ∃ l, Held W L l ∧ l.length ≤ B := by
  intro N
  induction N with
  | zero =>
    intro n hn L y h _
    obtain rfl : n = 0 := by omega
    simp [DataW.trod] at h
  | succ N IH =>
    intro n0 hn0 L y h hB
    rcases DataW.trod_slice Tryz.underlying22 h with ⟨e, _⟩ | ⟨a, len, cap, elems, rest, n1, hn, e, rfl, hb, hl, hm, hlen, hel, _, _⟩
    · obtain rfl : L = .slice none 0 0 := by simpa using e
      exact ⟨[], by unfold Held; exact ⟨none, 0, rfl⟩, by simp⟩
    · obtain rfl : L = .slice (some a) len cap := by simpa using e
      rw [show Tryz.prog.cellsOf 31 = 6 by kernel_rfl] at hel
      have hE : Rows.uptoBulkAll (elems.map (·.1)) ≤ B := by
        have : Rows.uptoBulkAll (elems.map (·.1)) + Rows.uptoBulkAll (rest.map (·.1)) + 1 ≤ B := hB
        omega
      have hln : len ≤ B := by
        have := bulk_len (elems.map (·.1))
        simp only [List.length_map] at this
        omega
      have each : ∀ i, i < len → ∃ k b m t x l p, (∀ j v, [Value.int .i64 k, .bool b, .int .i64 m, .string t, .string x, p][j]? = some v → W.cell? ((a.add (i * 6)).add j) = some v) ∧ Fine m t x (List.length (α := Val) l) ∧ Held W p l := by
        intro i hi
        have h1 := hel i hi
        have hi' : i < elems.length := by omega
        rw [List.getElem?_eq_getElem hi', Option.bind_eq_some_iff] at h1
        obtain ⟨cs, hcs, hy⟩ := h1
        obtain ⟨c1, c2⟩ := mapM_cells hcs
        obtain ⟨n', k, b, m, t, x, p, yl, hn', rfl, hp, ht, hx, hpl, wm⟩ := value_of_trod hy
        have hbe : Rows.uptoBulk elems[i].1 ≤ B := Nat.le_trans (bulk_mem (List.mem_map_of_mem (List.getElem_mem hi'))) hE
        obtain ⟨l, hheld, hll⟩ := IH n' (by omega) p yl hp (by omega)
        obtain ⟨w1, w2⟩ := i64_wf wm
        refine ⟨k, b, m, t, x, l, p, fun j v hv => ?_, ⟨by omega, by omega, by omega, w1, w2⟩, hheld⟩
        have hj : j < 6 := by
          have := (List.getElem?_eq_some_iff.1 hv).1
          simpa using this
        rw [c2 j hj, hv]
      by_cases h0 : len = 0
      · subst h0
        exact ⟨[], by unfold Held; exact ⟨some a, cap, rfl⟩, by simp⟩
      · have hsp : a.spot = none := by
          obtain ⟨k, b, m, t, x, l, p, hc, _, _⟩ := each 0 (by omega)
          have h0 := hc 0 _ rfl
          cases kk : a.spot with
          | none => rfl
          | some mm =>
            rw [show (a.add (0 * 6)).add 0 = a by simp [Addr.add]] at h0
            unfold World.cell? at h0
            rw [kk] at h0
            split at h0 <;> simp at h0
        obtain ⟨g, off, spot⟩ := a
        simp only at hsp
        subst hsp
        have build : ∀ m, m ≤ len → ∃ l : List Val, l.length = m ∧ Holds W g (off + (len - m) * 6) l := by
          intro m
          induction m with
          | zero => exact fun _ => ⟨[], rfl, by unfold Holds; trivial⟩
          | succ m ih =>
            intro hm1
            obtain ⟨l, hll, hh⟩ := ih (by omega)
            obtain ⟨k, b, mm, t, x, q, p, hc, hf, hp⟩ := each (len - (m + 1)) (by omega)
            have ea : ∀ j, ((⟨g, off, none⟩ : Addr).add ((len - (m + 1)) * 6)).add j = ⟨g, off + (len - (m + 1)) * 6 + j, none⟩ := fun j => by rw [add_none, add_none]
            refine ⟨.mk k b mm t x q :: l, by simp [hll], ?_⟩
            unfold Holds
            refine ⟨?_, ?_⟩
            · unfold HoldsOne
              have hcj := fun j v hv => (congrArg W.cell? (ea j)).symm.trans (hc j v hv)
              exact ⟨hcj 0 _ rfl, hcj 1 _ rfl, hcj 2 _ rfl, hcj 3 _ rfl, hcj 4 _ rfl, hf, p, hcj 5 _ rfl, hp⟩
            · rw [show off + (len - (m + 1)) * 6 + 6 = off + (len - m) * 6 by omega]
              exact hh
        obtain ⟨l, hll, hh⟩ := build len (Nat.le_refl _)
        rw [Nat.sub_self, Nat.zero_mul, Nat.add_zero] at hh
        refine ⟨l, ?_, by omega⟩
        cases l with
        | nil => simp at hll; omega
        | cons v r =>
          unfold Holds at hh
          unfold Held
          exact ⟨g, off, cap, by rw [← hll]; rfl, hh.1, hh.2⟩
end Go.Proofs.YtffbcccbhofbpaaGreatDoor

/- Whether values in one another may be. -/
namespace Go.Proofs.YtffbcccbhofbpaaGreatDoor
open Go.RowKit

theorem range6 {w : World} {g off : Nat} {a b c d e f : Value} (h0 : w.cell? ⟨g, off, none⟩ = some a) (h1 : w.cell? ⟨g, off + 1, none⟩ = some b) (h2 : w.cell? ⟨g, off + 2, none⟩ = some c)
    (h3 : w.cell? ⟨g, off + 3, none⟩ = some d) (h4 : w.cell? ⟨g, off + 4, none⟩ = some e) (h5 : w.cell? ⟨g, off + 5, none⟩ = some f) : w.rangeAt g off [a, b, c, d, e, f] := by
  intro j v hv
  match j, hv with
  | 0, e => cases e; exact h0
  | 1, e => cases e; exact h1
  | 2, e => cases e; exact h2
  | 3, e => cases e; exact h3
  | 4, e => cases e; exact h4
  | 5, e => cases e; exact h5
  | j + 6, e => simp at e
theorem wpList_loadMid6 {ops : Array Oper} {rest : List Oper} {o : Oper} {a : Act} {w : World} {Q : Exit → Act → World → Prop} (y : Operand) (g off : Nat) (k : Int) (b : Bool) (n : Int) (t x : ByteArray) (L : Value)
    (h0 : w.cell? ⟨g, off, none⟩ = some (.int .i64 k)) (h1 : w.cell? ⟨g, off + 1, none⟩ = some (.bool b)) (h2 : w.cell? ⟨g, off + 2, none⟩ = some (.int .i64 n))
    (h3 : w.cell? ⟨g, off + 3, none⟩ = some (.string t)) (h4 : w.cell? ⟨g, off + 4, none⟩ = some (.string x)) (h5 : w.cell? ⟨g, off + 5, none⟩ = some L)
    (hgd : o.guard = none) (ho : o.op = .load 31 y) (hx : a.eval y = .pointer (some ⟨g, off, none⟩))
    (h : wpList Tryz.prog ops Q rest (a.put o.dst (.agg #[.int .i64 k, .bool b, .int .i64 n, .string t, .string x, L])) w) : wpList Tryz.prog ops Q (o :: rest) a w :=
  wpList_load_mid hgd 31 y ho g off hx [.int .i64 k, .bool b, .int .i64 n, .string t, .string x, L] _ (range6 h0 h1 h2 h3 h4 h5) Tryz.underlying31 rfl info28 h
end Go.Proofs.YtffbcccbhofbpaaGreatDoor
