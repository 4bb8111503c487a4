/- How two texts stand, by strings.Compare; the first that is not 0; how two numbers stand. -/
import Derived.Test.YtoifjjgakblhhaaGreatDoorGz
import Derived.Test.YtoifjjgakblhhaaGreatDoorOAm
import Derived.Test.YtoifjjgakblhhaaGreatDoorGr
import Derived.Shelf.Small.Strs
namespace Go.Proofs.YtoifjjgakblhhaaGreatDoor
open Go.RowKit

theorem compareBytes_eq : (l m : List UInt8) → Lib.compareBytes l m = bytesI l m
  | [], [] => by rfl
  | [], _ :: _ => by unfold Lib.compareBytes bytesI; rfl
  | _ :: _, [] => by unfold Lib.compareBytes bytesI; rfl
  | a :: x, b :: y => by
    unfold Lib.compareBytes
    rw [compareBytes_eq x y]
    unfold bytesI
    rw [show Op.bytesLess (a :: x) (b :: y) = (decide (a < b) || (a == b && Op.bytesLess x y)) from rfl, show Op.bytesLess (b :: y) (a :: x) = (decide (b < a) || (b == a && Op.bytesLess y x)) from rfl]
    by_cases h : a < b
    · simp [h]
    · by_cases g : b < a
      · have e : a ≠ b := by
          intro e
          subst e
          exact h g
        simp [h, g, e]
      · have e : a = b := by
          rw [UInt8.lt_iff_toNat_lt] at h g
          exact UInt8.toNat_inj.1 (by omega)
        subst e
        simp [h]
def Tryz.lays106_ren : Go.Shelf.Ren := ⟨fun | 106 => 98 | 213 => 131 | 265 => 154 | n => n, fun | n => n, fun | n => n⟩
theorem Tryz.lays106 : Go.Proofs.Lays.n106 Tryz.prog Tryz.lays106_ren := {
  mixed := by kernel_rfl
  f106 := Tryz.func98.trans (congrArg some (by kernel_rfl))
  f213 := Tryz.func131.trans (congrArg some (by kernel_rfl))
  f265 := Tryz.func154.trans (congrArg some (by kernel_rfl))
  t3 := Tryz.underlying3
  a3 := Tryz.isAgg3
  z3 := Tryz.sizeOf3
  v3 := Tryz.zeroValue3
  t9 := Tryz.underlying9
  a9 := Tryz.isAgg9
  z9 := Tryz.sizeOf9
  v9 := Tryz.zeroValue9 }
theorem strCmpAt (a b : ByteArray) (w : World) : Calls Tryz.prog 98 #[.string a, .string b] w fun e w' => e = .returned (.int .i64 (bytesI a.toList b.toList)) ∧ w' = w := by
  rw [toList_eq, toList_eq, ← compareBytes_eq]
  exact Any.strings_Compare Tryz.lays106 a b w

set_option maxHeartbeats 1600000 in
theorem orAt (c d : Int) (g : Nat) (w : World) (h0 : w.cell? ⟨g, 0, none⟩ = some (.int .i64 c)) (h1 : w.cell? ⟨g, 1, none⟩ = some (.int .i64 d)) :
    Calls Tryz.prog 97 #[.slice (some ⟨g, 0, none⟩) 2 2] w fun e w' => e = .returned (.int .i64 (lexI c d)) ∧ w' = w := by
  obtain ⟨r, hr⟩ : ∃ r, r = lexI c d := ⟨_, rfl⟩
  rw [← hr]
  have HR := Lib.hid hr
  clear hr
  go_enter Tryz.func97, Tryz.ntmps97
  go_wp2_with fail
  go_loopw [8] (fun i wr => wr = w ∧ ∃ j : Nat, i = .int .i64 j ∧ (j = 0 ∨ (j = 1 ∧ c = 0) ∨ (j = 2 ∧ c = 0 ∧ d = 0))) (fun i _ => 2 - (intOf i).toNat)
  case atStart => exact ⟨rfl, 0, rfl, .inl rfl⟩
  case round =>
    obtain ⟨rfl, j, rfl, rfl | ⟨rfl, hc⟩ | ⟨rfl, hc, hd⟩⟩ := hrel
    · by_cases hc : c = 0
      · have e2 : (c != 0) = false := by simp [hc]
        go_wp2_with fail
        go_roundw
        case rel => exact ⟨trivial, 1, by go_num, .inr (.inl ⟨rfl, hc⟩)⟩
        case measure => simp [intOf]
      · have e2 : (c != 0) = true := by simpa using hc
        go_wp2_with fail
        go_ret
        exact ⟨by rw [HR.out, lexI, if_neg hc]; rfl, rfl⟩
    · by_cases hd : d = 0
      · have e2 : (d != 0) = false := by simp [hd]
        go_wp2_with fail
        go_roundw
        case rel => exact ⟨trivial, 2, by go_num, .inr (.inr ⟨rfl, hc, hd⟩)⟩
        case measure => simp [intOf]
      · have e2 : (d != 0) = true := by simpa using hd
        go_wp2_with fail
        go_ret
        exact ⟨by rw [HR.out, lexI, if_pos hc]; rfl, rfl⟩
    · go_wp2_with fail
      go_ret
      exact ⟨by rw [HR.out, lexI, if_pos hc, hd]; rfl, rfl⟩

set_option maxRecDepth 20000 in
set_option maxHeartbeats 3200000 in
theorem ordNumsAt (k : Int) (b : Bool) (n : Int) (t x : ByteArray) (p : Option Addr) (len cap : Nat) (k2 : Int) (b2 : Bool) (n2 : Int) (t2 x2 : ByteArray) (p2 : Option Addr) (len2 cap2 : Nat) (w : World) (hG : Gd w) (hT : Tab w) (hf : Fine n t x len) (hf2 : Fine n2 t2 x2 len2) (hk : k = 2 ∨ k = 3) (hk2 : k2 = 2 ∨ k2 = 3) :
    Calls Tryz.prog 96 #[.agg #[.int .i64 k, .bool b, .int .i64 n, .string t, .string x, .slice p len cap], .agg #[.int .i64 k2, .bool b2, .int .i64 n2, .string t2, .string x2, .slice p2 len2 cap2]] w fun e w' => e = .returned (.int .i64 (lexI (cmpZ (numV k n t) (numV k2 n2 t2)) (lexI (cmpZ k k2) (if k = 3 then bytesI t.toList t2.toList else 0)))) ∧ Below w.heap.size w w' := by
  obtain ⟨W0, hW0⟩ : ∃ W0, W0 = (w.alloc (.cells #[.int .i64 k, .bool b, .int .i64 n, .string t, .string x, .slice p len cap] 28)).alloc (.cells #[.int .i64 k2, .bool b2, .int .i64 n2, .string t2, .string x2, .slice p2 len2 cap2] 28) := ⟨_, rfl⟩
  have S4 : Six W0 w.heap.size k b n t x p len cap := by rw [hW0]; exact (six_new _ rfl).alloc _
  have S5 : Six W0 (w.heap.size + 1) k2 b2 n2 t2 x2 p2 len2 cap2 := by rw [hW0]; exact six_new _ (by simp)
  have b0 : Below w.heap.size w W0 := by rw [hW0]; exact below2 _ _ _
  have hN := fun W (h : Below w.heap.size w W) => cmpNumsAt k b n t x p len cap k2 b2 n2 t2 x2 p2 len2 cap2 W (hG.below h) (hT.below h) hf hf2
  have hB2 := fun W => bothAreAt 2 k b n t x (.slice p len cap) k2 b2 n2 t2 x2 (.slice p2 len2 cap2) W
  have hB3 := fun W => bothAreAt 3 k b n t x (.slice p len cap) k2 b2 n2 t2 x2 (.slice p2 len2 cap2) W
  have hS := fun W => strCmpAt t t2 W
  have H0 := Lib.hid hW0
  clear hf hf2 hG hT hW0
  generalize cmpZ (numV k n t) (numV k2 n2 t2) = c at hN ⊢
  generalize bytesI t.toList t2.toList = s at hS ⊢
  obtain ⟨r2, hr2⟩ : ∃ r, r = (k == 2 && k2 == 2) := ⟨_, rfl⟩
  obtain ⟨r3, hr3⟩ : ∃ r, r = (k == 3 && k2 == 3) := ⟨_, rfl⟩
  rw [← hr2] at hB2
  rw [← hr3] at hB3
  by_cases hc : c = 0
  · subst hc
    rw [lexI_zero]
    rcases hk with rfl | rfl <;> rcases hk2 with rfl | rfl
    · obtain rfl : r2 = true := hr2
      obtain rfl : r3 = false := hr3
      rw [show lexI (cmpZ 2 2) (if (2 : Int) = 3 then s else 0) = 0 from rfl]
      go_enter Tryz.func96, Tryz.ntmps96
      go_wp2_with (first
        | (rw [← H0.out]; (with_reducible refine wpList_load6 (.tmp 2) w.heap.size S4 ?_ ?_ ?_ ?_); rfl; rfl; rfl)
        | ((with_reducible refine wpList_load6 (.tmp 2) w.heap.size S4 ?_ ?_ ?_ ?_); rfl; rfl; rfl)
        | ((with_reducible refine wpList_load6 (.tmp 3) (w.heap.size + 1) S5 ?_ ?_ ?_ ?_); rfl; rfl; rfl)
        | ((with_reducible refine wpList_load6g (.tmp 2) w.heap.size S4 ?_ ?_ ?_ ?_); rfl; rfl; rfl)
        | ((with_reducible refine wpList_load6g (.tmp 3) (w.heap.size + 1) S5 ?_ ?_ ?_ ?_); rfl; rfl; rfl)
        | (go_at_call 52; (with_reducible refine (hN _ b0).mono ?_); rintro e w' ⟨rfl, hb⟩; replace S4 := S4.below hb; replace S5 := S5.below hb; replace b0 := below_any b0 hb b0.size; have f3 := S4.c3; have g3 := S5.c3; have f0 := S4.c0; clear hb)
        | (go_at_call 53; (with_reducible refine (hB2 _).mono ?_); rintro e w' ⟨rfl, hb⟩; replace S4 := S4.below hb; replace S5 := S5.below hb; replace b0 := below_any b0 hb b0.size; have f3 := S4.c3; have g3 := S5.c3; have f0 := S4.c0; clear hb)
        | (go_at_call 53; (with_reducible refine (hB3 _).mono ?_); rintro e w' ⟨rfl, hb⟩; replace S4 := S4.below hb; replace S5 := S5.below hb; replace b0 := below_any b0 hb b0.size; have f3 := S4.c3; have g3 := S5.c3; have f0 := S4.c0; clear hb)
        | (go_at_call 98; (with_reducible refine (hS _).mono ?_); rintro e w' ⟨rfl, rfl⟩))
      go_ret
      exact ⟨rfl, b0⟩
    · obtain rfl : r2 = false := hr2
      obtain rfl : r3 = false := hr3
      rw [show lexI (cmpZ 2 3) (if (2 : Int) = 3 then s else 0) = -1 from rfl]
      go_enter Tryz.func96, Tryz.ntmps96
      go_wp2_with (first
        | (rw [← H0.out]; (with_reducible refine wpList_load6 (.tmp 2) w.heap.size S4 ?_ ?_ ?_ ?_); rfl; rfl; rfl)
        | ((with_reducible refine wpList_load6 (.tmp 2) w.heap.size S4 ?_ ?_ ?_ ?_); rfl; rfl; rfl)
        | ((with_reducible refine wpList_load6 (.tmp 3) (w.heap.size + 1) S5 ?_ ?_ ?_ ?_); rfl; rfl; rfl)
        | ((with_reducible refine wpList_load6g (.tmp 2) w.heap.size S4 ?_ ?_ ?_ ?_); rfl; rfl; rfl)
        | ((with_reducible refine wpList_load6g (.tmp 3) (w.heap.size + 1) S5 ?_ ?_ ?_ ?_); rfl; rfl; rfl)
        | (go_at_call 52; (with_reducible refine (hN _ b0).mono ?_); rintro e w' ⟨rfl, hb⟩; replace S4 := S4.below hb; replace S5 := S5.below hb; replace b0 := below_any b0 hb b0.size; have f3 := S4.c3; have g3 := S5.c3; have f0 := S4.c0; clear hb)
        | (go_at_call 53; (with_reducible refine (hB2 _).mono ?_); rintro e w' ⟨rfl, hb⟩; replace S4 := S4.below hb; replace S5 := S5.below hb; replace b0 := below_any b0 hb b0.size; have f3 := S4.c3; have g3 := S5.c3; have f0 := S4.c0; clear hb)
        | (go_at_call 53; (with_reducible refine (hB3 _).mono ?_); rintro e w' ⟨rfl, hb⟩; replace S4 := S4.below hb; replace S5 := S5.below hb; replace b0 := below_any b0 hb b0.size; have f3 := S4.c3; have g3 := S5.c3; have f0 := S4.c0; clear hb)
        | (go_at_call 98; (with_reducible refine (hS _).mono ?_); rintro e w' ⟨rfl, rfl⟩))
      go_ret
      exact ⟨rfl, b0⟩
    · obtain rfl : r2 = false := hr2
      obtain rfl : r3 = false := hr3
      rw [show lexI (cmpZ 3 2) (if (3 : Int) = 3 then s else 0) = 1 from rfl]
      go_enter Tryz.func96, Tryz.ntmps96
      go_wp2_with (first
        | (rw [← H0.out]; (with_reducible refine wpList_load6 (.tmp 2) w.heap.size S4 ?_ ?_ ?_ ?_); rfl; rfl; rfl)
        | ((with_reducible refine wpList_load6 (.tmp 2) w.heap.size S4 ?_ ?_ ?_ ?_); rfl; rfl; rfl)
        | ((with_reducible refine wpList_load6 (.tmp 3) (w.heap.size + 1) S5 ?_ ?_ ?_ ?_); rfl; rfl; rfl)
        | ((with_reducible refine wpList_load6g (.tmp 2) w.heap.size S4 ?_ ?_ ?_ ?_); rfl; rfl; rfl)
        | ((with_reducible refine wpList_load6g (.tmp 3) (w.heap.size + 1) S5 ?_ ?_ ?_ ?_); rfl; rfl; rfl)
        | (go_at_call 52; (with_reducible refine (hN _ b0).mono ?_); rintro e w' ⟨rfl, hb⟩; replace S4 := S4.below hb; replace S5 := S5.below hb; replace b0 := below_any b0 hb b0.size; have f3 := S4.c3; have g3 := S5.c3; have f0 := S4.c0; clear hb)
        | (go_at_call 53; (with_reducible refine (hB2 _).mono ?_); rintro e w' ⟨rfl, hb⟩; replace S4 := S4.below hb; replace S5 := S5.below hb; replace b0 := below_any b0 hb b0.size; have f3 := S4.c3; have g3 := S5.c3; have f0 := S4.c0; clear hb)
        | (go_at_call 53; (with_reducible refine (hB3 _).mono ?_); rintro e w' ⟨rfl, hb⟩; replace S4 := S4.below hb; replace S5 := S5.below hb; replace b0 := below_any b0 hb b0.size; have f3 := S4.c3; have g3 := S5.c3; have f0 := S4.c0; clear hb)
        | (go_at_call 98; (with_reducible refine (hS _).mono ?_); rintro e w' ⟨rfl, rfl⟩))
      go_ret
      exact ⟨rfl, b0⟩
    · obtain rfl : r2 = false := hr2
      obtain rfl : r3 = true := hr3
      rw [show lexI (cmpZ 3 3) (if (3 : Int) = 3 then s else 0) = s from rfl]
      go_enter Tryz.func96, Tryz.ntmps96
      go_wp2_with (first
        | (rw [← H0.out]; (with_reducible refine wpList_load6 (.tmp 2) w.heap.size S4 ?_ ?_ ?_ ?_); rfl; rfl; rfl)
        | ((with_reducible refine wpList_load6 (.tmp 2) w.heap.size S4 ?_ ?_ ?_ ?_); rfl; rfl; rfl)
        | ((with_reducible refine wpList_load6 (.tmp 3) (w.heap.size + 1) S5 ?_ ?_ ?_ ?_); rfl; rfl; rfl)
        | ((with_reducible refine wpList_load6g (.tmp 2) w.heap.size S4 ?_ ?_ ?_ ?_); rfl; rfl; rfl)
        | ((with_reducible refine wpList_load6g (.tmp 3) (w.heap.size + 1) S5 ?_ ?_ ?_ ?_); rfl; rfl; rfl)
        | (go_at_call 52; (with_reducible refine (hN _ b0).mono ?_); rintro e w' ⟨rfl, hb⟩; replace S4 := S4.below hb; replace S5 := S5.below hb; replace b0 := below_any b0 hb b0.size; have f3 := S4.c3; have g3 := S5.c3; have f0 := S4.c0; clear hb)
        | (go_at_call 53; (with_reducible refine (hB2 _).mono ?_); rintro e w' ⟨rfl, hb⟩; replace S4 := S4.below hb; replace S5 := S5.below hb; replace b0 := below_any b0 hb b0.size; have f3 := S4.c3; have g3 := S5.c3; have f0 := S4.c0; clear hb)
        | (go_at_call 53; (with_reducible refine (hB3 _).mono ?_); rintro e w' ⟨rfl, hb⟩; replace S4 := S4.below hb; replace S5 := S5.below hb; replace b0 := below_any b0 hb b0.size; have f3 := S4.c3; have g3 := S5.c3; have f0 := S4.c0; clear hb)
        | (go_at_call 98; (with_reducible refine (hS _).mono ?_); rintro e w' ⟨rfl, rfl⟩))
      go_ret
      exact ⟨rfl, b0⟩
  · rw [show lexI c (lexI (cmpZ k k2) (if k = 3 then s else 0)) = c from if_neg hc]
    have hc2 : (c != 0) = true := by simpa using hc
    clear hk hk2 hr2 hr3 hc
    go_enter Tryz.func96, Tryz.ntmps96
    go_wp2_with (first
      | (rw [← H0.out]; (with_reducible refine wpList_load6 (.tmp 2) w.heap.size S4 ?_ ?_ ?_ ?_); rfl; rfl; rfl)
      | ((with_reducible refine wpList_load6 (.tmp 2) w.heap.size S4 ?_ ?_ ?_ ?_); rfl; rfl; rfl)
      | ((with_reducible refine wpList_load6 (.tmp 3) (w.heap.size + 1) S5 ?_ ?_ ?_ ?_); rfl; rfl; rfl)
      | ((with_reducible refine wpList_load6g (.tmp 2) w.heap.size S4 ?_ ?_ ?_ ?_); rfl; rfl; rfl)
      | ((with_reducible refine wpList_load6g (.tmp 3) (w.heap.size + 1) S5 ?_ ?_ ?_ ?_); rfl; rfl; rfl)
      | (go_at_call 52; (with_reducible refine (hN _ b0).mono ?_); rintro e w' ⟨rfl, hb⟩; replace S4 := S4.below hb; replace S5 := S5.below hb; replace b0 := below_any b0 hb b0.size; have f3 := S4.c3; have g3 := S5.c3; have f0 := S4.c0; clear hb)
      | (go_at_call 53; (with_reducible refine (hB2 _).mono ?_); rintro e w' ⟨rfl, hb⟩; replace S4 := S4.below hb; replace S5 := S5.below hb; replace b0 := below_any b0 hb b0.size; have f3 := S4.c3; have g3 := S5.c3; have f0 := S4.c0; clear hb)
      | (go_at_call 53; (with_reducible refine (hB3 _).mono ?_); rintro e w' ⟨rfl, hb⟩; replace S4 := S4.below hb; replace S5 := S5.below hb; replace b0 := below_any b0 hb b0.size; have f3 := S4.c3; have g3 := S5.c3; have f0 := S4.c0; clear hb)
      | (go_at_call 98; (with_reducible refine (hS _).mono ?_); rintro e w' ⟨rfl, rfl⟩))
    go_ret
    exact ⟨rfl, b0⟩
end Go.Proofs.YtoifjjgakblhhaaGreatDoor
