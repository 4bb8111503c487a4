/- Texts of one kind, one behind the other: each says ahead of itself what it shows. -/
import Derived.Test.YtoifjjgakblhhaaGreatDoorHan
import Derived.Test.YtoifjjgakblhhaaGreatDoorHas
import Derived.Test.YtoifjjgakblhhaaGreatDoorHai
import Derived.Shelf.Small.Strs
import Derived.Test.YtoifjjgakblhhaaGreatDoorHaf
import Derived.Test.YtoifjjgakblhhaaGreatDoorHaj
/- How two texts stand, by strings.Compare; the first that is not 0; how two numbers stand. -/
namespace Go.Proofs.YtoifjjgakblhhaaGreatDoor
open Go.RowKit

theorem compareBytes_eq : (l m : List UInt8) → Lib.compareBytes l m = bytesI l m
  | [], [] => by rfl
  | [], _ :: _ => by unfold Lib.compareBytes bytesI; rfl
  | _ :: _, [] => by unfold Lib.compareBytes bytesI; rfl
  | a :: x, b :: y => by
    unfold Lib.compareBytes
    rw [compareBytes_eq x y]
    unfold bytesI
    rw [show Op.bytesLess (a :: x) (b :: y) = (decide (a < b) || (a == b && Op.bytesLess x y)) from rfl, show Op.bytesLess (b :: y) (a :: x) = (decide (b < a) || (b == a && Op.bytesLess y x)) from rfl]
    by_cases h : a < b
    · simp [h]
    · by_cases g : b < a
      · have e : a ≠ b := by
          intro e
          subst e
          exact h g
        simp [h, g, e]
      · have e : a = b := by
          rw [UInt8.lt_iff_toNat_lt] at h g
          exact UInt8.toNat_inj.1 (by omega)
        subst e
        simp [h]
def Tryz.lays106_ren : Go.Shelf.Ren := ⟨fun | 106 => 98 | 213 => 131 | 265 => 154 | n => n, fun | n => n, fun | n => n⟩
theorem Tryz.lays106 : Go.Proofs.Lays.n106 Tryz.prog Tryz.lays106_ren := {
  mixed := by kernel_rfl
  f106 := Tryz.func98.trans (congrArg some (by kernel_rfl))
  f213 := Tryz.func131.trans (congrArg some (by kernel_rfl))
  f265 := Tryz.func154.trans (congrArg some (by kernel_rfl))
  t3 := Tryz.underlying3
  a3 := Tryz.isAgg3
  z3 := Tryz.sizeOf3
  v3 := Tryz.zeroValue3
  t9 := Tryz.underlying9
  a9 := Tryz.isAgg9
  z9 := Tryz.sizeOf9
  v9 := Tryz.zeroValue9 }
theorem strCmpAt (a b : ByteArray) (w : World) : Calls Tryz.prog 98 #[.string a, .string b] w fun e w' => e = .returned (.int .i64 (bytesI a.toList b.toList)) ∧ w' = w := by
  rw [toList_eq, toList_eq, ← compareBytes_eq]
  exact Any.strings_Compare Tryz.lays106 a b w

set_option maxHeartbeats 1600000 in
theorem orAt (c d : Int) (g : Nat) (w : World) (h0 : w.cell? ⟨g, 0, none⟩ = some (.int .i64 c)) (h1 : w.cell? ⟨g, 1, none⟩ = some (.int .i64 d)) :
    Calls Tryz.prog 97 #[.slice (some ⟨g, 0, none⟩) 2 2] w fun e w' => e = .returned (.int .i64 (lexI c d)) ∧ w' = w := by
  obtain ⟨r, hr⟩ : ∃ r, r = lexI c d := ⟨_, rfl⟩
  rw [← hr]
  have HR := Lib.hid hr
  clear hr
  go_enter Tryz.func97, Tryz.ntmps97
  go_wp2_with fail
  go_loopw [8] (fun i wr => wr = w ∧ ∃ j : Nat, i = .int .i64 j ∧ (j = 0 ∨ (j = 1 ∧ c = 0) ∨ (j = 2 ∧ c = 0 ∧ d = 0))) (fun i _ => 2 - (intOf i).toNat)
  case atStart => exact ⟨rfl, 0, rfl, .inl rfl⟩
  case round =>
    obtain ⟨rfl, j, rfl, rfl | ⟨rfl, hc⟩ | ⟨rfl, hc, hd⟩⟩ := hrel
    · by_cases hc : c = 0
      · have e2 : (c != 0) = false := by simp [hc]
        go_wp2_with fail
        go_roundw
        case rel => exact ⟨trivial, 1, by go_num, .inr (.inl ⟨rfl, hc⟩)⟩
        case measure => simp [intOf]
      · have e2 : (c != 0) = true := by simpa using hc
        go_wp2_with fail
        go_ret
        exact ⟨by rw [HR.out, lexI, if_neg hc]; rfl, rfl⟩
    · by_cases hd : d = 0
      · have e2 : (d != 0) = false := by simp [hd]
        go_wp2_with fail
        go_roundw
        case rel => exact ⟨trivial, 2, by go_num, .inr (.inr ⟨rfl, hc, hd⟩)⟩
        case measure => simp [intOf]
      · have e2 : (d != 0) = true := by simpa using hd
        go_wp2_with fail
        go_ret
        exact ⟨by rw [HR.out, lexI, if_pos hc]; rfl, rfl⟩
    · go_wp2_with fail
      go_ret
      exact ⟨by rw [HR.out, lexI, if_pos hc, hd]; rfl, rfl⟩

set_option maxRecDepth 20000 in
set_option maxHeartbeats 3200000 in
theorem ordNumsAt (k : Int) (b : Bool) (n : Int) (t x : ByteArray) (p : Option Addr) (len cap : Nat) (k2 : Int) (b2 : Bool) (n2 : Int) (t2 x2 : ByteArray) (p2 : Option Addr) (len2 cap2 : Nat) (w : World) (hG : Gd w) (hT : Tab w) (hf : Fine n t x len) (hf2 : Fine n2 t2 x2 len2) (hk : k = 2 ∨ k = 3) (hk2 : k2 = 2 ∨ k2 = 3) :
    Calls Tryz.prog 96 #[.agg #[.int .i64 k, .bool b, .int .i64 n, .string t, .string x, .slice p len cap], .agg #[.int .i64 k2, .bool b2, .int .i64 n2, .string t2, .string x2, .slice p2 len2 cap2]] w fun e w' => e = .returned (.int .i64 (lexI (cmpZ (numV k n t) (numV k2 n2 t2)) (lexI (cmpZ k k2) (if k = 3 then bytesI t.toList t2.toList else 0)))) ∧ Below w.heap.size w w' := by
  obtain ⟨W0, hW0⟩ : ∃ W0, W0 = (w.alloc (.cells #[.int .i64 k, .bool b, .int .i64 n, .string t, .string x, .slice p len cap] 28)).alloc (.cells #[.int .i64 k2, .bool b2, .int .i64 n2, .string t2, .string x2, .slice p2 len2 cap2] 28) := ⟨_, rfl⟩
  have S4 : Six W0 w.heap.size k b n t x p len cap := by rw [hW0]; exact (six_new _ rfl).alloc _
  have S5 : Six W0 (w.heap.size + 1) k2 b2 n2 t2 x2 p2 len2 cap2 := by rw [hW0]; exact six_new _ (by simp)
  have b0 : Below w.heap.size w W0 := by rw [hW0]; exact below2 _ _ _
  have hN := fun W (h : Below w.heap.size w W) => cmpNumsAt k b n t x p len cap k2 b2 n2 t2 x2 p2 len2 cap2 W (hG.below h) (hT.below h) hf hf2
  have hB2 := fun W => bothAreAt 2 k b n t x (.slice p len cap) k2 b2 n2 t2 x2 (.slice p2 len2 cap2) W
  have hB3 := fun W => bothAreAt 3 k b n t x (.slice p len cap) k2 b2 n2 t2 x2 (.slice p2 len2 cap2) W
  have hS := fun W => strCmpAt t t2 W
  have H0 := Lib.hid hW0
  clear hf hf2 hG hT hW0
  generalize cmpZ (numV k n t) (numV k2 n2 t2) = c at hN ⊢
  generalize bytesI t.toList t2.toList = s at hS ⊢
  obtain ⟨r2, hr2⟩ : ∃ r, r = (k == 2 && k2 == 2) := ⟨_, rfl⟩
  obtain ⟨r3, hr3⟩ : ∃ r, r = (k == 3 && k2 == 3) := ⟨_, rfl⟩
  rw [← hr2] at hB2
  rw [← hr3] at hB3
  by_cases hc : c = 0
  · subst hc
    rw [lexI_zero]
    rcases hk with rfl | rfl <;> rcases hk2 with rfl | rfl
    · obtain rfl : r2 = true := hr2
      obtain rfl : r3 = false := hr3
      rw [show lexI (cmpZ 2 2) (if (2 : Int) = 3 then s else 0) = 0 from rfl]
      go_enter Tryz.func96, Tryz.ntmps96
      go_wp2_with (first
        | (rw [← H0.out]; (with_reducible refine wpList_load6 (.tmp 2) w.heap.size S4 ?_ ?_ ?_ ?_); rfl; rfl; rfl)
        | ((with_reducible refine wpList_load6 (.tmp 2) w.heap.size S4 ?_ ?_ ?_ ?_); rfl; rfl; rfl)
        | ((with_reducible refine wpList_load6 (.tmp 3) (w.heap.size + 1) S5 ?_ ?_ ?_ ?_); rfl; rfl; rfl)
        | ((with_reducible refine wpList_load6g (.tmp 2) w.heap.size S4 ?_ ?_ ?_ ?_); rfl; rfl; rfl)
        | ((with_reducible refine wpList_load6g (.tmp 3) (w.heap.size + 1) S5 ?_ ?_ ?_ ?_); rfl; rfl; rfl)
        | (go_at_call 52; (with_reducible refine (hN _ b0).mono ?_); rintro e w' ⟨rfl, hb⟩; replace S4 := S4.below hb; replace S5 := S5.below hb; replace b0 := below_any b0 hb b0.size; have f3 := S4.c3; have g3 := S5.c3; have f0 := S4.c0; clear hb)
        | (go_at_call 53; (with_reducible refine (hB2 _).mono ?_); rintro e w' ⟨rfl, hb⟩; replace S4 := S4.below hb; replace S5 := S5.below hb; replace b0 := below_any b0 hb b0.size; have f3 := S4.c3; have g3 := S5.c3; have f0 := S4.c0; clear hb)
        | (go_at_call 53; (with_reducible refine (hB3 _).mono ?_); rintro e w' ⟨rfl, hb⟩; replace S4 := S4.below hb; replace S5 := S5.below hb; replace b0 := below_any b0 hb b0.size; have f3 := S4.c3; have g3 := S5.c3; have f0 := S4.c0; clear hb)
        | (go_at_call 98; (with_reducible refine (hS _).mono ?_); rintro e w' ⟨rfl, rfl⟩))
      go_ret
      exact ⟨rfl, b0⟩
    · obtain rfl : r2 = false := hr2
      obtain rfl : r3 = false := hr3
      rw [show lexI (cmpZ 2 3) (if (2 : Int) = 3 then s else 0) = -1 from rfl]
      go_enter Tryz.func96, Tryz.ntmps96
      go_wp2_with (first
        | (rw [← H0.out]; (with_reducible refine wpList_load6 (.tmp 2) w.heap.size S4 ?_ ?_ ?_ ?_); rfl; rfl; rfl)
        | ((with_reducible refine wpList_load6 (.tmp 2) w.heap.size S4 ?_ ?_ ?_ ?_); rfl; rfl; rfl)
        | ((with_reducible refine wpList_load6 (.tmp 3) (w.heap.size + 1) S5 ?_ ?_ ?_ ?_); rfl; rfl; rfl)
        | ((with_reducible refine wpList_load6g (.tmp 2) w.heap.size S4 ?_ ?_ ?_ ?_); rfl; rfl; rfl)
        | ((with_reducible refine wpList_load6g (.tmp 3) (w.heap.size + 1) S5 ?_ ?_ ?_ ?_); rfl; rfl; rfl)
        | (go_at_call 52; (with_reducible refine (hN _ b0).mono ?_); rintro e w' ⟨rfl, hb⟩; replace S4 := S4.below hb; replace S5 := S5.below hb; replace b0 := below_any b0 hb b0.size; have f3 := S4.c3; have g3 := S5.c3; have f0 := S4.c0; clear hb)
        | (go_at_call 53; (with_reducible refine (hB2 _).mono ?_); rintro e w' ⟨rfl, hb⟩; replace S4 := S4.below hb; replace S5 := S5.below hb; replace b0 := below_any b0 hb b0.size; have f3 := S4.c3; have g3 := S5.c3; have f0 := S4.c0; clear hb)
        | (go_at_call 53; (with_reducible refine (hB3 _).mono ?_); rintro e w' ⟨rfl, hb⟩; replace S4 := S4.below hb; replace S5 := S5.below hb; replace b0 := below_any b0 hb b0.size; have f3 := S4.c3; have g3 := S5.c3; have f0 := S4.c0; clear hb)
        | (go_at_call 98; (with_reducible refine (hS _).mono ?_); rintro e w' ⟨rfl, rfl⟩))
      go_ret
      exact ⟨rfl, b0⟩
    · obtain rfl : r2 = false := hr2
      obtain rfl : r3 = false := hr3
      rw [show lexI (cmpZ 3 2) (if (3 : Int) = 3 then s else 0) = 1 from rfl]
      go_enter Tryz.func96, Tryz.ntmps96
      go_wp2_with (first
        | (rw [← H0.out]; (with_reducible refine wpList_load6 (.tmp 2) w.heap.size S4 ?_ ?_ ?_ ?_); rfl; rfl; rfl)
        | ((with_reducible refine wpList_load6 (.tmp 2) w.heap.size S4 ?_ ?_ ?_ ?_); rfl; rfl; rfl)
        | ((with_reducible refine wpList_load6 (.tmp 3) (w.heap.size + 1) S5 ?_ ?_ ?_ ?_); rfl; rfl; rfl)
        | ((with_reducible refine wpList_load6g (.tmp 2) w.heap.size S4 ?_ ?_ ?_ ?_); rfl; rfl; rfl)
        | ((with_reducible refine wpList_load6g (.tmp 3) (w.heap.size + 1) S5 ?_ ?_ ?_ ?_); rfl; rfl; rfl)
        | (go_at_call 52; (with_reducible refine (hN _ b0).mono ?_); rintro e w' ⟨rfl, hb⟩; replace S4 := S4.below hb; replace S5 := S5.below hb; replace b0 := below_any b0 hb b0.size; have f3 := S4.c3; have g3 := S5.c3; have f0 := S4.c0; clear hb)
        | (go_at_call 53; (with_reducible refine (hB2 _).mono ?_); rintro e w' ⟨rfl, hb⟩; replace S4 := S4.below hb; replace S5 := S5.below hb; replace b0 := below_any b0 hb b0.size; have f3 := S4.c3; have g3 := S5.c3; have f0 := S4.c0; clear hb)
        | (go_at_call 53; (with_reducible refine (hB3 _).mono ?_); rintro e w' ⟨rfl, hb⟩; replace S4 := S4.below hb; replace S5 := S5.below hb; replace b0 := below_any b0 hb b0.size; have f3 := S4.c3; have g3 := S5.c3; have f0 := S4.c0; clear hb)
        | (go_at_call 98; (with_reducible refine (hS _).mono ?_); rintro e w' ⟨rfl, rfl⟩))
      go_ret
      exact ⟨rfl, b0⟩
    · obtain rfl : r2 = false := hr2
      obtain rfl : r3 = true := hr3
      rw [show lexI (cmpZ 3 3) (if (3 : Int) = 3 then s else 0) = s from rfl]
      go_enter Tryz.func96, Tryz.ntmps96
      go_wp2_with (first
        | (rw [← H0.out]; (with_reducible refine wpList_load6 (.tmp 2) w.heap.size S4 ?_ ?_ ?_ ?_); rfl; rfl; rfl)
        | ((with_reducible refine wpList_load6 (.tmp 2) w.heap.size S4 ?_ ?_ ?_ ?_); rfl; rfl; rfl)
        | ((with_reducible refine wpList_load6 (.tmp 3) (w.heap.size + 1) S5 ?_ ?_ ?_ ?_); rfl; rfl; rfl)
        | ((with_reducible refine wpList_load6g (.tmp 2) w.heap.size S4 ?_ ?_ ?_ ?_); rfl; rfl; rfl)
        | ((with_reducible refine wpList_load6g (.tmp 3) (w.heap.size + 1) S5 ?_ ?_ ?_ ?_); rfl; rfl; rfl)
        | (go_at_call 52; (with_reducible refine (hN _ b0).mono ?_); rintro e w' ⟨rfl, hb⟩; replace S4 := S4.below hb; replace S5 := S5.below hb; replace b0 := below_any b0 hb b0.size; have f3 := S4.c3; have g3 := S5.c3; have f0 := S4.c0; clear hb)
        | (go_at_call 53; (with_reducible refine (hB2 _).mono ?_); rintro e w' ⟨rfl, hb⟩; replace S4 := S4.below hb; replace S5 := S5.below hb; replace b0 := below_any b0 hb b0.size; have f3 := S4.c3; have g3 := S5.c3; have f0 := S4.c0; clear hb)
        | (go_at_call 53; (with_reducible refine (hB3 _).mono ?_); rintro e w' ⟨rfl, hb⟩; replace S4 := S4.below hb; replace S5 := S5.below hb; replace b0 := below_any b0 hb b0.size; have f3 := S4.c3; have g3 := S5.c3; have f0 := S4.c0; clear hb)
        | (go_at_call 98; (with_reducible refine (hS _).mono ?_); rintro e w' ⟨rfl, rfl⟩))
      go_ret
      exact ⟨rfl, b0⟩
  · rw [show lexI c (lexI (cmpZ k k2) (if k = 3 then s else 0)) = c from if_neg hc]
    have hc2 : (c != 0) = true := by simpa using hc
    clear hk hk2 hr2 hr3 hc
    go_enter Tryz.func96, Tryz.ntmps96
    go_wp2_with (first
      | (rw [← H0.out]; (with_reducible refine wpList_load6 (.tmp 2) w.heap.size S4 ?_ ?_ ?_ ?_); rfl; rfl; rfl)
      | ((with_reducible refine wpList_load6 (.tmp 2) w.heap.size S4 ?_ ?_ ?_ ?_); rfl; rfl; rfl)
      | ((with_reducible refine wpList_load6 (.tmp 3) (w.heap.size + 1) S5 ?_ ?_ ?_ ?_); rfl; rfl; rfl)
      | ((with_reducible refine wpList_load6g (.tmp 2) w.heap.size S4 ?_ ?_ ?_ ?_); rfl; rfl; rfl)
      | ((with_reducible refine wpList_load6g (.tmp 3) (w.heap.size + 1) S5 ?_ ?_ ?_ ?_); rfl; rfl; rfl)
      | (go_at_call 52; (with_reducible refine (hN _ b0).mono ?_); rintro e w' ⟨rfl, hb⟩; replace S4 := S4.below hb; replace S5 := S5.below hb; replace b0 := below_any b0 hb b0.size; have f3 := S4.c3; have g3 := S5.c3; have f0 := S4.c0; clear hb)
      | (go_at_call 53; (with_reducible refine (hB2 _).mono ?_); rintro e w' ⟨rfl, hb⟩; replace S4 := S4.below hb; replace S5 := S5.below hb; replace b0 := below_any b0 hb b0.size; have f3 := S4.c3; have g3 := S5.c3; have f0 := S4.c0; clear hb)
      | (go_at_call 53; (with_reducible refine (hB3 _).mono ?_); rintro e w' ⟨rfl, hb⟩; replace S4 := S4.below hb; replace S5 := S5.below hb; replace b0 := below_any b0 hb b0.size; have f3 := S4.c3; have g3 := S5.c3; have f0 := S4.c0; clear hb)
      | (go_at_call 98; (with_reducible refine (hS _).mono ?_); rintro e w' ⟨rfl, rfl⟩))
    go_ret
    exact ⟨rfl, b0⟩
end Go.Proofs.YtoifjjgakblhhaaGreatDoor

/- How two lists stand, given how their elements do: CompareFunc over orderWithin's closure. -/
namespace Go.Proofs.YtoifjjgakblhhaaGreatDoor
open Go.RowKit

/-- Order's contract at a value. -/
def OrdAt (v : Val) : Prop := ∀ (lang : Int) (W : World) (k : Int) (b : Bool) (n : Int) (t x : ByteArray) (q : List Val) (p : Option Addr) (cap : Nat) (v2 : Val) (k2 : Int) (b2 : Bool) (n2 : Int) (t2 x2 : ByteArray) (q2 : List Val) (p2 : Option Addr) (cap2 : Nat),
  v = .mk k b n t x q → v2 = .mk k2 b2 n2 t2 x2 q2 → Gd W → Tab W → Fine n t x q.length → Fine n2 t2 x2 q2.length → Held W (.slice p q.length cap) q → Held W (.slice p2 q2.length cap2) q2 →
  Calls Tryz.prog 23 #[.int .i64 lang, .agg #[.int .i64 k, .bool b, .int .i64 n, .string t, .string x, .slice p q.length cap], .agg #[.int .i64 k2, .bool b2, .int .i64 n2, .string t2, .string x2, .slice p2 q2.length cap2]] W
    fun e w' => e = .returned (.int .i64 (orderI lang v v2)) ∧ Below W.heap.size W w'

theorem listI_drop (lang : Int) (l l2 : List Val) (j : Nat) (h : j < l.length) (h2 : j < l2.length) : listI lang (l.drop j) (l2.drop j) = lexI (orderI lang l[j] l2[j]) (listI lang (l.drop (j + 1)) (l2.drop (j + 1))) := by
  rw [List.drop_eq_getElem_cons h, List.drop_eq_getElem_cons h2, listI]
theorem listI_long (lang : Int) (l l2 : List Val) (j : Nat) (h : j < l.length) (h2 : l2.length ≤ j) : listI lang (l.drop j) (l2.drop j) = 1 := by
  rw [List.drop_eq_getElem_cons h, List.drop_eq_nil_of_le h2, listI]
theorem listI_short (lang : Int) (l l2 : List Val) (h2 : l.length < l2.length) : listI lang (l.drop l.length) (l2.drop l.length) = -1 := by
  rw [List.drop_eq_nil_of_le (Nat.le_refl _), List.drop_eq_getElem_cons h2, listI]
theorem listI_end (lang : Int) (l l2 : List Val) (h2 : l2.length ≤ l.length) : listI lang (l.drop l.length) (l2.drop l.length) = 0 := by
  rw [List.drop_eq_nil_of_le (Nat.le_refl _), List.drop_eq_nil_of_le h2, listI]

set_option maxHeartbeats 1600000 in
theorem ordClosure {v : Val} (h : OrdAt v) (lang : Int) (gl : Nat) (W : World) (k : Int) (b : Bool) (n : Int) (t x : ByteArray) (q : List Val) (p : Option Addr) (cap : Nat) (v2 : Val) (k2 : Int) (b2 : Bool) (n2 : Int) (t2 x2 : ByteArray) (q2 : List Val) (p2 : Option Addr) (cap2 : Nat)
    (e1 : v = .mk k b n t x q) (e2 : v2 = .mk k2 b2 n2 t2 x2 q2) (hG : Gd W) (hT : Tab W) (hf : Fine n t x q.length) (hf2 : Fine n2 t2 x2 q2.length) (hl : Held W (.slice p q.length cap) q) (hl2 : Held W (.slice p2 q2.length cap2) q2) (hcl : W.cell? ⟨gl, 0, none⟩ = some (.int .i64 lang)) :
    Calls Tryz.prog 94 #[.agg #[.int .i64 k, .bool b, .int .i64 n, .string t, .string x, .slice p q.length cap], .agg #[.int .i64 k2, .bool b2, .int .i64 n2, .string t2, .string x2, .slice p2 q2.length cap2], .pointer (some ⟨gl, 0, none⟩)] W
      fun e w' => e = .returned (.int .i64 (orderI lang v v2)) ∧ Below W.heap.size W w' := by
  obtain ⟨W0, hW0⟩ : ∃ W0, W0 = (W.alloc (.cells #[.int .i64 k, .bool b, .int .i64 n, .string t, .string x, .slice p q.length cap] 28)).alloc (.cells #[.int .i64 k2, .bool b2, .int .i64 n2, .string t2, .string x2, .slice p2 q2.length cap2] 28) := ⟨_, rfl⟩
  have S4 : Six W0 W.heap.size k b n t x p q.length cap := by rw [hW0]; exact (six_new _ rfl).alloc _
  have S5 : Six W0 (W.heap.size + 1) k2 b2 n2 t2 x2 p2 q2.length cap2 := by rw [hW0]; exact six_new _ (by simp)
  have b0 : Below W.heap.size W W0 := by rw [hW0]; exact below2 _ _ _
  have hc0 : W0.cell? ⟨gl, 0, none⟩ = some (.int .i64 lang) := (b0.cell (p := ⟨gl, 0, none⟩) (World.block_lt_of_cell? W _ hcl)).trans hcl
  have hc := h lang W0 k b n t x q p cap v2 k2 b2 n2 t2 x2 q2 p2 cap2 e1 e2 (hG.below b0) (hT.below b0) hf hf2 (Held.below q hl b0) (Held.below q2 hl2 b0)
  have hc00 := hc0
  rw [hW0] at hc00
  have z0 := b0.size
  have H0 := Lib.hid hW0
  clear hl hl2 hf hf2 hG hT hW0 e1 e2 h hcl
  generalize orderI lang v v2 = r at hc ⊢
  go_enter Tryz.func94, Tryz.ntmps94
  go_wp2_with (first
    | (rw [← H0.out]; (with_reducible refine wpList_load6 (.tmp 3) W.heap.size S4 ?_ ?_ ?_ ?_); rfl; rfl; rfl)
    | ((with_reducible refine wpList_load6 (.tmp 3) W.heap.size S4 ?_ ?_ ?_ ?_); rfl; rfl; rfl)
    | ((with_reducible refine wpList_load6 (.tmp 4) (W.heap.size + 1) S5 ?_ ?_ ?_ ?_); rfl; rfl; rfl)
    | (go_at_call 23; (with_reducible refine hc.mono ?_); rintro e w3 ⟨rfl, hb3⟩; replace b0 := below_any b0 hb3 z0))
  go_ret
  exact ⟨rfl, b0⟩

theorem cmpFuncNil (lang : Int) (p p2 : Option Addr) (l2 : List Val) (cap cap2 : Nat) (F : Value) (w : World) :
    Calls Tryz.prog 93 #[.slice p 0 cap, .slice p2 l2.length cap2, F] w fun e w' => e = .returned (.int .i64 (listI lang [] l2)) ∧ Below w.heap.size w w' := by
  cases l2 with
  | nil =>
    rw [show listI lang [] [] = 0 from by unfold listI; rfl, List.length_nil]
    go_enter Tryz.func93, Tryz.ntmps93
    go_wp2_with fail
    go_loopw [13] (fun i wr => i = .int .i64 0 ∧ wr = w) (fun _ _ => 0)
    case atStart => exact ⟨rfl, rfl⟩
    case round =>
      obtain ⟨rfl, rfl⟩ := hrel
      go_wp2_with fail
      go_ret
      exact ⟨rfl, Below.refl _ _⟩
  | cons v r =>
    rw [show listI lang [] (v :: r) = -1 from by unfold listI; rfl, List.length_cons]
    go_enter Tryz.func93, Tryz.ntmps93
    go_wp2_with fail
    go_loopw [13] (fun i wr => i = .int .i64 0 ∧ wr = w) (fun _ _ => 0)
    case atStart => exact ⟨rfl, rfl⟩
    case round =>
      obtain ⟨rfl, rfl⟩ := hrel
      go_wp2_with fail
      go_ret
      exact ⟨rfl, Below.refl _ _⟩

set_option maxRecDepth 20000 in
set_option maxHeartbeats 3200000 in
theorem cmpFuncSome (lang : Int) (gl : Nat) (l l2 : List Val) (g off cap : Nat) (P2 : Option Addr) (g2 off2 cap2 : Nat) (w : World) (hG : Gd w) (hT : Tab w) (hcl : w.cell? ⟨gl, 0, none⟩ = some (.int .i64 lang)) (hl : Holds w g off l) (hl2 : Holds w g2 off2 l2)
    (hP2 : 0 < l2.length → P2 = some ⟨g2, off2, none⟩) (hn : l.length ≤ 2097152) (hn2 : l2.length ≤ 2097152) (each : ∀ v ∈ l, OrdAt v) :
    Calls Tryz.prog 93 #[.slice (some ⟨g, off, none⟩) l.length cap, .slice P2 l2.length cap2, .func (.func 94) #[] #[.pointer (some ⟨gl, 0, none⟩)]] w fun e w' => e = .returned (.int .i64 (listI lang l l2)) ∧ Below w.heap.size w w' := by
  have HH := Lib.hid hl
  have HH2 := Lib.hid hl2
  have HE := Lib.hid each
  have HP := Lib.hid hP2
  clear hl hl2 each hP2
  go_enter Tryz.func93, Tryz.ntmps93
  go_wp2_with fail
  go_loopw [13] (fun i wr => ∃ j : Nat, j ≤ l.length ∧ i = .int .i64 j ∧ Below w.heap.size w wr ∧ Hid (listI lang l l2 = listI lang (l.drop j) (l2.drop j))) (fun i _ => l.length - (intOf i).toNat)
  case atStart => exact ⟨0, Nat.zero_le _, rfl, Below.refl _ _, Lib.hid (by rw [List.drop_zero, List.drop_zero])⟩
  case round =>
    obtain ⟨j, hj, rfl, hb, HA⟩ := hrel
    by_cases hlt : j < l.length
    · obtain ⟨k, b, n, t, x, q, p, cp, o1⟩ := ((Holds.at_ l off HH.out j hlt).below _ hb).opens
      have hs : w.heap.size ≤ wr.heap.size := hb.size
      by_cases hlt2 : j < l2.length
      · obtain rfl := HP.out (by omega)
        obtain ⟨k2, b2, n2, t2, x2, q2, p2, cp2, o2⟩ := ((Holds.at_ l2 off2 HH2.out j hlt2).below _ hb).opens
        obtain ⟨c1, hc1⟩ : ∃ c1, c1 = Obj.cells #[.int .i64 k, .bool b, .int .i64 n, .string t, .string x, .slice p q.length cp] 28 := ⟨_, rfl⟩
        obtain ⟨c2, hc2⟩ : ∃ c2, c2 = Obj.cells #[.int .i64 k2, .bool b2, .int .i64 n2, .string t2, .string x2, .slice p2 q2.length cp2] 28 := ⟨_, rfl⟩
        have bb := below2 wr c1 c2
        have b0 : Below w.heap.size w ((wr.alloc c1).alloc c2) := (hb.alloc hs _).alloc (by simp; omega) _
        have hcl2 : ((wr.alloc c1).alloc c2).cell? ⟨gl, 0, none⟩ = some (.int .i64 lang) := (b0.cell (p := ⟨gl, 0, none⟩) (World.block_lt_of_cell? w _ hcl)).trans hcl
        have hc := ordClosure (HE.out l[j] (List.getElem_mem hlt)) lang gl ((wr.alloc c1).alloc c2) k b n t x q p cp l2[j] k2 b2 n2 t2 x2 q2 p2 cp2 o1.e o2.e (hG.below b0) (hT.below b0) o1.hf o2.hf (Held.below q o1.hl bb) (Held.below q2 o2.hl bb) hcl2
        obtain ⟨r, hr⟩ : ∃ r, r = orderI lang l[j] l2[j] := ⟨_, rfl⟩
        rw [← hr] at hc
        have hA := HA.out
        rw [listI_drop lang l l2 j hlt hlt2, ← hr] at hA
        have l0 : Six ((wr.alloc c1).alloc c2) wr.heap.size k b n t x p q.length cp := by rw [hc1]; exact (six_new _ rfl).alloc _
        have l1 : Six ((wr.alloc c1).alloc c2) (wr.heap.size + 1) k2 b2 n2 t2 x2 p2 q2.length cp2 := by rw [hc2]; exact six_new _ (by simp)
        have z0 : w.heap.size ≤ ((wr.alloc c1).alloc c2).heap.size := b0.size
        have O1 := Lib.hid o1
        have O2 := Lib.hid (o2.below (below1 wr c1))
        clear o1 o2 bb hr HA hcl2
        by_cases hr0 : r = 0
        · subst hr0
          rw [lexI_zero] at hA
          have HA := Lib.hid hA
          clear hA
          subst hc1 hc2
          go_wp2_with (first
            | ((with_reducible refine wpList_loadMid6 (.tmp 16) g (off + j * 6) k b n t x (.slice p q.length cp) O1.out.c0 O1.out.c1 O1.out.c2 O1.out.c3 O1.out.c4 O1.out.c5 ?_ ?_ ?_ ?_); rfl; rfl; rfl)
            | ((with_reducible refine wpList_loadMid6 (.tmp 24) g2 (off2 + j * 6) k2 b2 n2 t2 x2 (.slice p2 q2.length cp2) O2.out.c0 O2.out.c1 O2.out.c2 O2.out.c3 O2.out.c4 O2.out.c5 ?_ ?_ ?_ ?_); rfl; rfl; rfl)
            | ((with_reducible refine wpList_load6 (.tmp 8) wr.heap.size l0 ?_ ?_ ?_ ?_); rfl; rfl; rfl)
            | ((with_reducible refine wpList_load6 (.tmp 9) (wr.heap.size + 1) l1 ?_ ?_ ?_ ?_); rfl; rfl; rfl)
            | (go_at_call 94; (with_reducible refine hc.mono ?_); rintro e w3 ⟨rfl, hb3⟩; have b3 := below_any b0 hb3 z0))
          go_roundw
          case rel => exact ⟨j + 1, by omega, by go_num, b3, HA⟩
          case measure => simp [intOf]; omega
        · have e : lexI r (listI lang (l.drop (j + 1)) (l2.drop (j + 1))) = r := by unfold lexI; rw [if_neg hr0]
          rw [e] at hA
          have HA := Lib.hid hA
          have e2 : (r != 0) = true := by simpa using hr0
          clear hA e
          subst hc1 hc2
          go_wp2_with (first
            | ((with_reducible refine wpList_loadMid6 (.tmp 16) g (off + j * 6) k b n t x (.slice p q.length cp) O1.out.c0 O1.out.c1 O1.out.c2 O1.out.c3 O1.out.c4 O1.out.c5 ?_ ?_ ?_ ?_); rfl; rfl; rfl)
            | ((with_reducible refine wpList_loadMid6 (.tmp 24) g2 (off2 + j * 6) k2 b2 n2 t2 x2 (.slice p2 q2.length cp2) O2.out.c0 O2.out.c1 O2.out.c2 O2.out.c3 O2.out.c4 O2.out.c5 ?_ ?_ ?_ ?_); rfl; rfl; rfl)
            | ((with_reducible refine wpList_load6 (.tmp 8) wr.heap.size l0 ?_ ?_ ?_ ?_); rfl; rfl; rfl)
            | ((with_reducible refine wpList_load6 (.tmp 9) (wr.heap.size + 1) l1 ?_ ?_ ?_ ?_); rfl; rfl; rfl)
            | (go_at_call 94; (with_reducible refine hc.mono ?_); rintro e w3 ⟨rfl, hb3⟩; have b3 := below_any b0 hb3 z0))
          go_ret
          exact ⟨by rw [HA.out]; rfl, b3⟩
      · have hA := HA.out
        rw [listI_long lang l l2 j hlt (by omega)] at hA
        have HA2 := Lib.hid hA
        have O1 := Lib.hid o1
        have b0 : Below w.heap.size w (wr.alloc (.cells #[.int .i64 k, .bool b, .int .i64 n, .string t, .string x, .slice p q.length cp] 28)) := hb.alloc hs _
        clear hA HA o1
        go_wp2_with (first
          | ((with_reducible refine wpList_loadMid6 (.tmp 16) g (off + j * 6) k b n t x (.slice p q.length cp) O1.out.c0 O1.out.c1 O1.out.c2 O1.out.c3 O1.out.c4 O1.out.c5 ?_ ?_ ?_ ?_); rfl; rfl; rfl))
        go_ret
        exact ⟨by rw [HA2.out]; rfl, b0⟩
    · obtain rfl : j = l.length := by omega
      have hA := HA.out
      by_cases hs : l.length < l2.length
      · rw [listI_short lang l l2 hs] at hA
        have HA2 := Lib.hid hA
        clear hA HA
        go_wp2_with fail
        go_ret
        exact ⟨by rw [HA2.out]; rfl, hb⟩
      · rw [listI_end lang l l2 (by omega)] at hA
        have HA2 := Lib.hid hA
        clear hA HA
        go_wp2_with fail
        go_ret
        exact ⟨by rw [HA2.out]; rfl, hb⟩

theorem cmpFuncAt (lang : Int) (gl : Nat) (l l2 : List Val) (p p2 : Option Addr) (cap cap2 : Nat) (w : World) (hG : Gd w) (hT : Tab w) (hcl : w.cell? ⟨gl, 0, none⟩ = some (.int .i64 lang)) (hl : Held w (.slice p l.length cap) l) (hl2 : Held w (.slice p2 l2.length cap2) l2) (hn : l.length ≤ 2097152) (hn2 : l2.length ≤ 2097152) (each : ∀ v ∈ l, OrdAt v) :
    Calls Tryz.prog 93 #[.slice p l.length cap, .slice p2 l2.length cap2, .func (.func 94) #[] #[.pointer (some ⟨gl, 0, none⟩)]] w fun e w' => e = .returned (.int .i64 (listI lang l l2)) ∧ Below w.heap.size w w' := by
  cases l with
  | nil => exact cmpFuncNil lang p p2 l2 cap cap2 _ w
  | cons v r =>
    obtain ⟨g, off, rfl, hh⟩ := hl.form
    cases l2 with
    | nil => exact cmpFuncSome lang gl (v :: r) [] g off cap p2 0 0 cap2 w hG hT hcl hh (by unfold Holds; trivial) (fun h => absurd h (by simp)) hn hn2 each
    | cons v2 r2 =>
      obtain ⟨g2, off2, rfl, hh2⟩ := hl2.form
      exact cmpFuncSome lang gl (v :: r) (v2 :: r2) g off cap _ g2 off2 cap2 w hG hT hcl hh hh2 (fun _ => rfl) hn hn2 each
end Go.Proofs.YtoifjjgakblhhaaGreatDoor

/- How two lists stand, by the document's own rows, given how their elements do. -/
namespace Go.Proofs.YtoifjjgakblhhaaGreatDoor
open Go.RowKit

/-- The document's own Order's contract at a value. -/
def OrdRef (v : Val) : Prop := ∀ (lang : Int) (W : World) (k : Int) (b : Bool) (n : Int) (t x : ByteArray) (q : List Val) (p : Option Addr) (cap : Nat) (v2 : Val) (k2 : Int) (b2 : Bool) (n2 : Int) (t2 x2 : ByteArray) (q2 : List Val) (p2 : Option Addr) (cap2 : Nat),
  v = .mk k b n t x q → v2 = .mk k2 b2 n2 t2 x2 q2 → Fine n t x q.length → Fine n2 t2 x2 q2.length → Held W (.slice p q.length cap) q → Held W (.slice p2 q2.length cap2) q2 →
  Calls Tryz.prog 24 #[.int .i64 lang, .agg #[.int .i64 k, .bool b, .int .i64 n, .string t, .string x, .slice p q.length cap], .agg #[.int .i64 k2, .bool b2, .int .i64 n2, .string t2, .string x2, .slice p2 q2.length cap2]] W
    fun e w' => e = .returned (.int .i64 (orderI lang v v2)) ∧ Below W.heap.size W w'

set_option maxRecDepth 20000 in
set_option maxHeartbeats 6400000 in
theorem rowsAt (lang : Int) (l l2 : List Val) (p p2 : Option Addr) (cap cap2 : Nat) (w : World) (hl : Held w (.slice p l.length cap) l) (hl2 : Held w (.slice p2 l2.length cap2) l2) (hn : l.length ≤ 2097152) (hn2 : l2.length ≤ 2097152) (each : ∀ v ∈ l, OrdRef v) :
    Calls Tryz.prog 58 #[.int .i64 lang, .slice p l.length cap, .slice p2 l2.length cap2] w fun e w' => e = .returned (.int .i64 (listI lang l l2)) ∧ Below w.heap.size w w' := by
  obtain ⟨z, hz⟩ : ∃ z, z = listI lang l l2 := ⟨_, rfl⟩
  rw [← hz]
  have HZ := Lib.hid hz
  have HL := Lib.hid hl
  have HL2 := Lib.hid hl2
  have HE := Lib.hid each
  clear hl hl2 each hz
  go_enter Tryz.func58, Tryz.ntmps58
  go_wp2_with fail
  go_loopw [7] (fun i wr => ∃ j : Nat, j ≤ l.length ∧ j ≤ l2.length ∧ i = .int .i64 j ∧ Below w.heap.size w wr ∧ Hid (z = listI lang (l.drop j) (l2.drop j))) (fun i _ => l.length - (intOf i).toNat)
  case atStart => exact ⟨0, Nat.zero_le _, Nat.zero_le _, rfl, Below.refl _ _, Lib.hid (by rw [List.drop_zero, List.drop_zero]; exact HZ.out)⟩
  case round =>
    obtain ⟨j, hj, hj2, rfl, hb, HA⟩ := hrel
    by_cases hlt : j < l.length
    · by_cases hlt2 : j < l2.length
      · obtain ⟨g, off, rfl, hh⟩ : ∃ g off, p = some ⟨g, off, none⟩ ∧ Holds w g off l := by
          have hq := HL.out
          cases l with
          | nil => simp at hlt
          | cons v r => exact hq.form
        obtain ⟨g2, off2, rfl, hh2⟩ : ∃ g2 off2, p2 = some ⟨g2, off2, none⟩ ∧ Holds w g2 off2 l2 := by
          have hq := HL2.out
          cases l2 with
          | nil => simp at hlt2
          | cons v r => exact hq.form
        obtain ⟨k, b, n, t, x, q, p, cp, o1⟩ := (Holds.at_ l off hh j hlt).opens
        obtain ⟨k2, b2, n2, t2, x2, q2, p2, cp2, o2⟩ := (Holds.at_ l2 off2 hh2 j hlt2).opens
        have hc := fun W (hb : Below w.heap.size w W) => HE.out l[j] (List.getElem_mem hlt) lang W k b n t x q p cp l2[j] k2 b2 n2 t2 x2 q2 p2 cp2 o1.e o2.e o1.hf o2.hf (Held.below q o1.hl hb) (Held.below q2 o2.hl hb)
        obtain ⟨r, hr⟩ : ∃ r, r = orderI lang l[j] l2[j] := ⟨_, rfl⟩
        rw [← hr] at hc
        have hA := HA.out
        rw [listI_drop lang l l2 j hlt hlt2, ← hr] at hA
        have R1 : ∀ w', Below w.heap.size w w' → w'.rangeAt g (off + j * 6) [.int .i64 k, .bool b, .int .i64 n, .string t, .string x, .slice p q.length cp] := fun w' h => (o1.below h).range
        have R2 : ∀ w', Below w.heap.size w w' → w'.rangeAt g2 (off2 + j * 6) [.int .i64 k2, .bool b2, .int .i64 n2, .string t2, .string x2, .slice p2 q2.length cp2] := fun w' h => (o2.below h).range
        have HC := Lib.hid hc
        have HA2 := Lib.hid hA
        have HR1 := Lib.hid R1
        have HR2 := Lib.hid R2
        clear o1 o2 hr hc R1 R2 hh hh2 hA HA
        have hlti : (j : Int) < l.length := by omega
        have hlti2 : (j : Int) < l2.length := by omega
        go_wp2_with fail
        refine wp_region_held_drew (S := fun w' => Below w.heap.size w w') (by kernel_rfl) hb.drew (fun hHeld => ?_)
        refine wpAnyH_take (i := 0) (v := .int .i64 lang) rfl (by kernel_rfl) (by kernel_rfl) (by kernel_rfl) (fun _ _ _ h => h) (Or.inl ⟨by rfl, fun W _ => by go_simp⟩) hHeld ?_
        try simp only [Act.put, List.getElem_toArray, List.getElem_cons_succ, List.getElem_cons_zero, List.setIfInBounds_toArray, List.set_cons_zero, List.set_cons_succ]
        refine wpAnyH_take (i := 1) (v := .slice (some ⟨g, off, none⟩) l.length cap) rfl (by kernel_rfl) (by kernel_rfl) (by kernel_rfl) (fun _ _ _ h => h) (Or.inl ⟨by rfl, fun W _ => by go_simp⟩) hHeld ?_
        try simp only [Act.put, List.getElem_toArray, List.getElem_cons_succ, List.getElem_cons_zero, List.setIfInBounds_toArray, List.set_cons_zero, List.set_cons_succ]
        refine wpAnyH_take (i := 2) (v := .int .i64 j) rfl (by kernel_rfl) (by kernel_rfl) (by kernel_rfl) (fun _ _ _ h => h) (Or.inl ⟨by rfl, fun W _ => by go_simp⟩) hHeld ?_
        try simp only [Act.put, List.getElem_toArray, List.getElem_cons_succ, List.getElem_cons_zero, List.setIfInBounds_toArray, List.set_cons_zero, List.set_cons_succ]
        refine wpAnyH_take (i := 3) (v := .pointer (some ⟨g, off + j * 6, none⟩)) rfl (by kernel_rfl) (by kernel_rfl) (by kernel_rfl) (fun _ _ _ h => h) (Or.inl ⟨by rfl, fun W _ => by go_simp⟩) hHeld ?_
        try simp only [Act.put, List.getElem_toArray, List.getElem_cons_succ, List.getElem_cons_zero, List.setIfInBounds_toArray, List.set_cons_zero, List.set_cons_succ]
        refine wpAnyH_take (i := 4) rfl (by kernel_rfl) (by kernel_rfl) (by kernel_rfl) (fun _ _ _ h => h) (yieldsIf_load_mid (by rfl) 28 (.tmp 24) rfl g (off + j * 6) rfl _ _ (fun w h => HR1.out w h) Tryz.underlying28 rfl info28) hHeld ?_
        try simp only [Act.put, List.getElem_toArray, List.getElem_cons_succ, List.getElem_cons_zero, List.setIfInBounds_toArray, List.set_cons_zero, List.set_cons_succ]
        refine wpAnyH_take (i := 5) (v := .slice (some ⟨g2, off2, none⟩) l2.length cap2) rfl (by kernel_rfl) (by kernel_rfl) (by kernel_rfl) (fun _ _ _ h => h) (Or.inl ⟨by rfl, fun W _ => by go_simp⟩) hHeld ?_
        try simp only [Act.put, List.getElem_toArray, List.getElem_cons_succ, List.getElem_cons_zero, List.setIfInBounds_toArray, List.set_cons_zero, List.set_cons_succ]
        refine wpAnyH_take (i := 6) (v := .int .i64 j) rfl (by kernel_rfl) (by kernel_rfl) (by kernel_rfl) (fun _ _ _ h => h) (Or.inl ⟨by rfl, fun W _ => by go_simp⟩) hHeld ?_
        try simp only [Act.put, List.getElem_toArray, List.getElem_cons_succ, List.getElem_cons_zero, List.setIfInBounds_toArray, List.set_cons_zero, List.set_cons_succ]
        refine wpAnyH_take (i := 7) (v := .pointer (some ⟨g2, off2 + j * 6, none⟩)) rfl (by kernel_rfl) (by kernel_rfl) (by kernel_rfl) (fun _ _ _ h => h) (Or.inl ⟨by rfl, fun W _ => by go_simp⟩) hHeld ?_
        try simp only [Act.put, List.getElem_toArray, List.getElem_cons_succ, List.getElem_cons_zero, List.setIfInBounds_toArray, List.set_cons_zero, List.set_cons_succ]
        refine wpAnyH_take (i := 8) rfl (by kernel_rfl) (by kernel_rfl) (by kernel_rfl) (fun _ _ _ h => h) (yieldsIf_load_mid (by rfl) 28 (.tmp 28) rfl g2 (off2 + j * 6) rfl _ _ (fun w h => HR2.out w h) Tryz.underlying28 rfl info28) hHeld ?_
        try simp only [Act.put, List.getElem_toArray, List.getElem_cons_succ, List.getElem_cons_zero, List.setIfInBounds_toArray, List.set_cons_zero, List.set_cons_succ]
        refine wpAnyH_ready (rs := [9]) (by kernel_rfl) (by simp) ?_
        refine AllReadyH.cons rfl (fun K hK => ?_) AllReadyH.nil
        rw [if_pos (by rfl)]
        go_simp
        refine (HC.out _ hHeld).mono ?_
        rintro e w3 ⟨rfl, hb3⟩
        refine hK.out _ _ (below_any hHeld hb3 hHeld.size) (fun hHeld2 => ?_)
        clear hK K hb3 hHeld
        try simp only [Act.put, List.getElem_toArray, List.getElem_cons_succ, List.getElem_cons_zero, List.setIfInBounds_toArray, List.set_cons_zero, List.set_cons_succ]
        refine wpAnyH_take (i := 10) (v := .int .i64 r) rfl (by kernel_rfl) (by kernel_rfl) (by kernel_rfl) (fun _ _ _ h => h) (Or.inl ⟨by rfl, fun W _ => by go_simp⟩) hHeld2 ?_
        try simp only [Act.put, List.getElem_toArray, List.getElem_cons_succ, List.getElem_cons_zero, List.setIfInBounds_toArray, List.set_cons_zero, List.set_cons_succ]
        refine wpAnyH_done (by kernel_rfl) ?_ _
        by_cases hr0 : r = 0
        · have e2 : (r != 0) = false := by simp [hr0]
          have HA3 := Lib.hid (show z = listI lang (l.drop (j + 1)) (l2.drop (j + 1)) by rw [HA2.out, hr0, lexI_zero])
          clear HA2
          go_wp2_with fail
          go_roundw
          case rel => exact ⟨j + 1, by omega, by omega, by go_num, hHeld2, HA3⟩
          case measure => simp [intOf]; omega
        · have e2 : (r != 0) = true := by simpa using hr0
          have HA3 := Lib.hid (show z = r by rw [HA2.out]; exact if_neg hr0)
          clear HA2
          go_wp2_with fail
          go_ret
          exact ⟨by rw [HA3.out]; rfl, hHeld2⟩
      · obtain rfl : j = l2.length := by omega
        have HA3 := Lib.hid (show z = 1 by rw [HA.out]; exact listI_long lang l l2 _ hlt (Nat.le_refl _))
        clear HA
        go_wp2_with (go_at_call 57; (with_reducible refine (signAt _ _ _).mono ?_); rintro e w' ⟨rfl, rfl⟩)
        go_ret
        exact ⟨by rw [HA3.out]; simp, hb⟩
    · obtain rfl : j = l.length := by omega
      by_cases hs : l.length < l2.length
      · have HA3 := Lib.hid (show z = -1 by rw [HA.out]; exact listI_short lang l l2 hs)
        clear HA
        go_wp2_with (go_at_call 57; (with_reducible refine (signAt _ _ _).mono ?_); rintro e w' ⟨rfl, rfl⟩)
        go_ret
        exact ⟨by rw [HA3.out]; simp, hb⟩
      · have HA3 := Lib.hid (show z = 0 by rw [HA.out]; exact listI_end lang l l2 (by omega))
        clear HA
        go_wp2_with (go_at_call 57; (with_reducible refine (signAt _ _ _).mono ?_); rintro e w' ⟨rfl, rfl⟩)
        go_ret
        exact ⟨by rw [HA3.out]; simp, hb⟩
end Go.Proofs.YtoifjjgakblhhaaGreatDoor

/- Whether two values are equal: equal, where one is none, or both are numbers. -/
namespace Go.Proofs.YtoifjjgakblhhaaGreatDoor
open Go.RowKit

set_option maxRecDepth 4000 in
set_option maxHeartbeats 3200000 in
theorem equalPlain (lang : Int) (k : Int) (b : Bool) (n : Int) (t x : ByteArray) (q : List Val) (p : Option Addr) (cap : Nat) (k2 : Int) (b2 : Bool) (n2 : Int) (t2 x2 : ByteArray) (q2 : List Val) (p2 : Option Addr) (cap2 : Nat) (w : World) (hG : Gd w) (hT : Tab w) (hf : Fine n t x q.length) (hf2 : Fine n2 t2 x2 q2.length) (hl : Held w (.slice p q.length cap) q) (hl2 : Held w (.slice p2 q2.length cap2) q2) (each : ∀ v ∈ q, EqualAt lang v) (h : k = 0 ∨ k2 = 0 ∨ (numB k = true ∧ numB k2 = true)) :
    Calls Tryz.prog 44 #[.int .i64 lang, .agg #[.int .i64 k, .bool b, .int .i64 n, .string t, .string x, .slice p q.length cap], .agg #[.int .i64 k2, .bool b2, .int .i64 n2, .string t2, .string x2, .slice p2 q2.length cap2]] w fun e w' => e = .returned (.int .i64 (equalP lang (.mk k b n t x q) (.mk k2 b2 n2 t2 x2 q2))) ∧ Below w.heap.size w w' := by
  obtain ⟨W0, hW0⟩ : ∃ W0, W0 = (w.alloc (.cells #[.int .i64 k, .bool b, .int .i64 n, .string t, .string x, .slice p q.length cap] 28)).alloc (.cells #[.int .i64 k2, .bool b2, .int .i64 n2, .string t2, .string x2, .slice p2 q2.length cap2] 28) := ⟨_, rfl⟩
  have S4 : Six W0 w.heap.size k b n t x p q.length cap := by rw [hW0]; exact (six_new _ rfl).alloc _
  have S5 : Six W0 (w.heap.size + 1) k2 b2 n2 t2 x2 p2 q2.length cap2 := by rw [hW0]; exact six_new _ (by simp)
  have b0 : Below w.heap.size w W0 := by rw [hW0]; exact below2 _ _ _
  have f0 := S4.c0
  have g0 := S5.c0
  have H0 := Lib.hid hW0
  have hn1 := fun W => isNumberAt k b n t x (.slice p q.length cap) W
  have hn2 := fun W => isNumberAt k2 b2 n2 t2 x2 (.slice p2 q2.length cap2) W
  have hcmp := fun W (h : Below w.heap.size w W) => cmpNumsAt k b n t x p q.length cap k2 b2 n2 t2 x2 p2 q2.length cap2 W (hG.below h) (hT.below h) hf hf2
  have hg1 := fun W => isGraphsAt k b n t x (.slice p q.length cap) W
  have hg2 := fun W => isGraphsAt k2 b2 n2 t2 x2 (.slice p2 q2.length cap2) W
  have ho1 := fun W (h : Below w.heap.size w W) => isOpenAt k b n t x q p cap k2 b2 n2 t2 x2 q2 p2 cap2 W hf (Held.below q hl h) (Held.below q2 hl2 h) _ rfl
  have ho2 := fun W (h : Below w.heap.size w W) => isOpenAt k2 b2 n2 t2 x2 q2 p2 cap2 k b n t x q p cap W hf2 (Held.below q2 hl2 h) (Held.below q hl h) _ rfl
  have hbo := fun W => bothAreAt 5 k b n t x (.slice p q.length cap) k2 b2 n2 t2 x2 (.slice p2 q2.length cap2) W
  have hls := fun W (h : Below w.heap.size w W) => eqListsAt lang q q2 p p2 cap cap2 W (hG.below h) (hT.below h) (Held.below q hl h) (Held.below q2 hl2 h) hf.hn each
  have hsm := fun W (h : Below w.heap.size w W) => sameAtV k b n t x q p cap k2 b2 n2 t2 x2 q2 p2 cap2 W hf (Held.below q hl h) (Held.below q2 hl2 h)
  clear hl hl2 hf hf2 hG hT each hW0
  cases e0 : (k == 0) with
  | true =>
    have hv : equalP lang (.mk k b n t x q) (.mk k2 b2 n2 t2 x2 q2) = 2 := by unfold equalP; rw [if_pos (.inl (by simpa using e0))]
    rw [hv]
    clear hv h hn1 hn2 hcmp hg1 hg2 ho1 ho2 hbo hls hsm
    go_enter Tryz.func44, Tryz.ntmps44
    go_wp2_with fail
    rw [← H0.out]
    go_wp2_with (first
      | ((with_reducible refine wpList_load6g (.tmp 4) w.heap.size S4 ?_ ?_ ?_ ?_); rfl; rfl; rfl)
      | ((with_reducible refine wpList_load6g (.tmp 5) (w.heap.size + 1) S5 ?_ ?_ ?_ ?_); rfl; rfl; rfl))
    go_ret
    exact ⟨rfl, b0⟩
  | false =>
    have n0 : ¬ k = 0 := by simpa using e0
    cases e1 : (k2 == 0) with
    | true =>
      have hv : equalP lang (.mk k b n t x q) (.mk k2 b2 n2 t2 x2 q2) = 2 := by unfold equalP; rw [if_pos (.inr (by simpa using e1))]
      rw [hv]
      clear hv h n0 hn1 hn2 hcmp hg1 hg2 ho1 ho2 hbo hls hsm
      go_enter Tryz.func44, Tryz.ntmps44
      go_wp2_with fail
      rw [← H0.out]
      go_wp2_with (first
        | ((with_reducible refine wpList_load6g (.tmp 4) w.heap.size S4 ?_ ?_ ?_ ?_); rfl; rfl; rfl)
        | ((with_reducible refine wpList_load6g (.tmp 5) (w.heap.size + 1) S5 ?_ ?_ ?_ ?_); rfl; rfl; rfl))
      go_ret
      exact ⟨rfl, b0⟩
    | false =>
      have n1 : ¬ k2 = 0 := by simpa using e1
      rcases h with h | h | ⟨h1, h2⟩
      · exact absurd h n0
      · exact absurd h n1
      · have hv : equalP lang (.mk k b n t x q) (.mk k2 b2 n2 t2 x2 q2) = tI (cmpZ (numV k n t) (numV k2 n2 t2) == 0) := by unfold equalP; rw [if_neg (by omega), if_pos ⟨h1, h2⟩]
        rw [hv]
        unfold numB at h1 h2
        rw [h1] at hn1
        rw [h2] at hn2
        generalize cmpZ (numV k n t) (numV k2 n2 t2) = r at hcmp ⊢
        clear hv h1 h2 n0 n1 hg1 hg2 ho1 ho2 hbo hls hsm
        go_enter Tryz.func44, Tryz.ntmps44
        go_wp2_with fail
        rw [← H0.out]
        go_wp2_with (first
          | ((with_reducible refine wpList_load6g (.tmp 4) w.heap.size S4 ?_ ?_ ?_ ?_); rfl; rfl; rfl)
          | ((with_reducible refine wpList_load6g (.tmp 5) (w.heap.size + 1) S5 ?_ ?_ ?_ ?_); rfl; rfl; rfl)
          | (go_at_call 50; (with_reducible refine (hn1 _).mono ?_); rintro e w' ⟨rfl, hb⟩; replace S4 := S4.below hb; replace S5 := S5.below hb; replace b0 := below_any b0 hb b0.size; have f5 := S4.c5; have g5 := S5.c5; have f00 := S4.c0; have g00 := S5.c0; clear hb)
          | (go_at_call 50; (with_reducible refine (hn2 _).mono ?_); rintro e w' ⟨rfl, hb⟩; replace S4 := S4.below hb; replace S5 := S5.below hb; replace b0 := below_any b0 hb b0.size; have f5 := S4.c5; have g5 := S5.c5; have f00 := S4.c0; have g00 := S5.c0; clear hb)
          | (go_at_call 52; (with_reducible refine (hcmp _ b0).mono ?_); rintro e w' ⟨rfl, hb⟩; replace S4 := S4.below hb; replace S5 := S5.below hb; replace b0 := below_any b0 hb b0.size; have f5 := S4.c5; have g5 := S5.c5; have f00 := S4.c0; have g00 := S5.c0; clear hb)
          | (go_at_call 51; (with_reducible refine (truthT _ _).mono ?_); rintro e w' ⟨rfl, rfl⟩))
        go_ret
        exact ⟨rfl, b0⟩
end Go.Proofs.YtoifjjgakblhhaaGreatDoor
