/- Texts of one kind, one behind the other: each says ahead of itself what it shows. -/
import Derived.Test.YtoifjjgakblhhaaGreatDoorHan
import Derived.Test.YtoifjjgakblhhaaGreatDoorHap
import Derived.Test.YtoifjjgakblhhaaGreatDoorHaq
import Derived.Test.YtoifjjgakblhhaaGreatDoorHal
import Derived.Test.YtoifjjgakblhhaaGreatDoorHar
/- The reader: a value, kind by kind. -/
namespace Go.Proofs.YtoifjjgakblhhaaGreatDoor
open Go.RowKit

theorem Six.set0 {w : World} {g : Nat} {k : Int} {b : Bool} {n : Int} {t x : ByteArray} {p : Option Addr} {len cap : Nat} (h : Six w g k b n t x p len cap) (v : Int) : Six (w.setCell ⟨g, 0, none⟩ (.int .i64 v)) g v b n t x p len cap := heap_set h 0 (.int .i64 v)
theorem Only.new {R B : Nat} {w y z : World} (h : Only R w y) (k : Only B y z) (hB : w.heap.size ≤ B) : Only R w z :=
  ⟨k.os.trans h.os, k.tape.trans h.tape, k.output.trans h.output, Nat.le_trans h.size k.size, fun i hi e => (k.block i (Nat.lt_of_lt_of_le hi h.size) (by omega)).trans (h.block i hi e)⟩
/-- A value's box was written: the reader is as it was. -/
theorem Rd.six {w w' : World} {R B : Nat} {l : List UInt8} {k : Int} {b : Bool} {n : Int} {t x : ByteArray} {p : Option Addr} {len cap : Nat} (h : Rd w R l) (S : Six w B k b n t x p len cap) (o : Only B w w') (hne : B ≠ R) : Rd w' R l := by
  obtain ⟨p1, cap1, h1, h2, h3, h4⟩ := h
  refine ⟨p1, cap1, (o.block R (lt_of_heap h1) (fun e => hne e.symm)).trans h1, h2, h3, ?_⟩
  rcases h4 with h4 | ⟨g, off, e, hg, ⟨cs, hcs⟩, hc⟩
  · exact .inl h4
  · have hgB : g ≠ B := fun e2 => by
      subst e2
      have h6 : w.heap[g]? = some (.cells #[.int .i64 k, .bool b, .int .i64 n, .string t, .string x, .slice p len cap] 28) := S
      rw [h6] at hcs
      injection hcs with h7
      injection h7 with _ h8
      exact absurd h8 (by decide)
    exact .inr ⟨g, off, e, hg, ⟨cs, (o.block g (lt_of_heap hcs) hgB).trans hcs⟩, fun j c hj => (World.cell?_of_block (w := w) (a := ⟨g, off + j, none⟩) (o.block g (lt_of_heap hcs) hgB)).trans (hc j c hj)⟩
theorem wrap_toI64 (x : Nat) (h : x < 18446744073709551616) : IntKind.i64.wrap (x : Int) = toI64 x := by
  rw [IntKind.wrap_i64]
  unfold toI64
  split <;> omega
theorem toI64_bounds (x : Nat) (h : x < 18446744073709551616) : -9223372036854775808 ≤ toI64 x ∧ toI64 x ≤ 9223372036854775807 := by
  unfold toI64
  split <;> omega
/-- What value tells. -/
def RdPost (f R : Nat) (l : List UInt8) (w : World) (e : Ending) (w' : World) : Prop :=
  (rdV f l = none ∧ (∃ (k : Int) (b : Bool) (n : Int) (t x : ByteArray) (p : Option Addr) (len cap : Nat), e = .returned (.tuple #[.agg #[.int .i64 k, .bool b, .int .i64 n, .string t, .string x, .slice p len cap], .bool false])) ∧ Only R w w') ∨
  (∃ (k : Int) (b : Bool) (n : Int) (t x : ByteArray) (q : List Val) (p : Option Addr) (cap : Nat) (r : List UInt8), rdV f l = some (.mk k b n t x q, r) ∧ r.length ≤ l.length ∧ Fine n t x q.length ∧
    e = .returned (.tuple #[.agg #[.int .i64 k, .bool b, .int .i64 n, .string t, .string x, .slice p q.length cap], .bool true]) ∧ HeldF w' (fun g => w.heap.size ≤ g ∧ g < w'.heap.size) (.slice p q.length cap) q ∧ Rd w' R r ∧ Only R w w')
theorem heldNil (w : World) (P : Nat → Prop) (p : Option Addr) (cap : Nat) : HeldF w P (.slice p ([] : List Val).length cap) [] := by unfold HeldF; exact ⟨p, cap, rfl⟩
theorem kindInt (R : Nat) (l r : List UInt8) (c : UInt8) (x : Int) (W : World) (hlr : l = c :: r) (hx : (c.toNat : Int) = x) (h : Rd W R l) (hl : l.length ≤ 1000000000) :
    Calls Tryz.prog 111 #[.pointer (some ⟨R, 0, none⟩), .int .i64 1] W fun e w' => e = .returned (.tuple #[.int .u64 x, .bool true]) ∧ Rd w' R r ∧ Only R W w' := by
  have hi : Calls Tryz.prog 111 #[.pointer (some ⟨R, 0, none⟩), .int .i64 1] W (IntPost R l 1 W) := intAt R l 1 W h (by omega) hl
  refine hi.mono ?_
  subst hlr
  rintro e w' (⟨h, _⟩ | ⟨_, he, h⟩)
  · simp at h
  · refine ⟨?_, h⟩
    rw [he, ← hx]
    simp [numW]
theorem kindNone (R : Nat) (W : World) (k : Nat) (hk0 : 0 < k) (hk : k ≤ 8) (l : List UInt8) (hlk : l.length < k) (h : Rd W R l) (hl : l.length ≤ 1000000000) :
    Calls Tryz.prog 111 #[.pointer (some ⟨R, 0, none⟩), .int .i64 k] W fun e w' => e = .returned (.tuple #[.int .u64 0, .bool false]) ∧ w' = W := by
  refine (intAt R l k W h hk hl).mono ?_
  rintro e w' (⟨_, he, h⟩ | ⟨h, _⟩)
  · exact ⟨he, h⟩
  · omega
theorem kindMany (R : Nat) (W : World) (k : Nat) (hk : k ≤ 8) (l : List UInt8) (hlk : k ≤ l.length) (h : Rd W R l) (hl : l.length ≤ 1000000000) :
    Calls Tryz.prog 111 #[.pointer (some ⟨R, 0, none⟩), .int .i64 k] W fun e w' => e = .returned (.tuple #[.int .u64 (numW (l.take k)), .bool true]) ∧ Rd w' R (l.drop k) ∧ Only R W w' := by
  refine (intAt R l k W h hk hl).mono ?_
  rintro e w' (⟨h, _⟩ | ⟨_, he, h⟩)
  · omega
  · exact ⟨he, h⟩

set_option maxRecDepth 20000 in
set_option maxHeartbeats 6400000 in
theorem rdNull (R d f : Nat) (l r : List UInt8) (c : UInt8) (w : World) (hlr : l = c :: r) (hc : c.toNat = 0) (h : Rd w R l) (hl : l.length ≤ 1000000000) :
    Calls Tryz.prog 70 #[.pointer (some ⟨R, 0, none⟩), .int .i64 d] w (RdPost f R l w) := by
  have hv : rdV f l = rdK (if f = 0 then none else some (rdV (f - 1))) 0 r := by rw [hlr, rdV_cons, hc]
  have hrl : r.length ≤ l.length := by rw [hlr]; simp
  obtain ⟨W0, hW0⟩ : ∃ W0, W0 = w.alloc (.cells #[.int .i64 0, .bool false, .int .i64 0, .string ⟨#[]⟩, .string ⟨#[]⟩, .slice none 0 0] 28) := ⟨_, rfl⟩
  have S : Six W0 w.heap.size 0 false 0 ⟨#[]⟩ ⟨#[]⟩ none 0 0 := by rw [hW0]; exact six_new _ rfl
  have b0 : Below w.heap.size w W0 := by rw [hW0]; exact below1 _ _
  have hBR : w.heap.size ≠ R := by have := h.lt; omega
  have hi := kindInt R l r c 0 W0 hlr (by rw [hc]; rfl) (h.below b0) hl
  have O : Only R w W0 := Only.of_below b0
  have hl2 : r.length ≤ 1000000000 := by omega
  have H0 := Lib.hid hW0
  have HV := Lib.hid hv
  clear hW0 hv h b0 hlr hc
  go_enter Tryz.func70, Tryz.ntmps70
  go_upto_region 22 with (first
    | (go_at_call 111; (try rw [← H0.out]); (with_reducible refine hi.mono ?_); rintro e w1 ⟨rfl, R1, O1⟩; replace S := S.only O1 hBR; have c0 := S.c0; have f0 := S.free 0; replace R1 := R1.six S ((Only.refl _ w1).setCell 0 none (.int .i64 0)) hBR; replace O := (O.trans O1).new ((Only.refl w.heap.size w1).setCell 0 none (.int .i64 0)) (Nat.le_refl _); replace S := S.set0 0; clear O1 hi)
    | ((with_reducible refine wpList_load6 (.tmp 4) w.heap.size S ?_ ?_ ?_ ?_); rfl; rfl; rfl)
    | (go_at_call 72; (with_reducible refine (kindOfAt 0 _ _ _ _ _ 80 rfl _).mono ?_); rintro e w2 ⟨rfl, hb2⟩; replace S := S.below hb2; replace R1 := R1.below hb2; replace O := O.trans (Only.of_below hb2); clear hb2 c0 f0)
    | (simp only [ta80_80, ta80_81, ta80_82, ta80_83, ta80_84, ta80_85, ta80_87, ta80_88, ta80_89, ta80_90, ta80_91, Result.andThen_ok]))
  go_wp2_with (first
    | ((with_reducible refine wpList_load6 (.tmp 4) w.heap.size S ?_ ?_ ?_ ?_); rfl; rfl; rfl)
    | ((with_reducible refine wpList_store6 (k' := 0) (b' := false) (n' := 0) (t' := ⟨#[]⟩) (x' := ⟨#[]⟩) (p' := none) (len' := 0) (cap' := 0) (.tmp 4) (.tmp 105) w.heap.size S ?_ ?_ ?_ ?_ ?_); rfl; rfl; rfl; rfl; intro w9 on9 S9))
  have R9 := R1.six S on9 hBR
  have O9 := O.new on9 (Nat.le_refl _)
  refine bodyPost_ret (results_six_tmp (p := 4) (q := 5) Tryz.results70 _ (.bool true) rfl rfl S9) rfl (.inr ⟨0, false, 0, ⟨#[]⟩, ⟨#[]⟩, [], none, 0, r, ?_, hrl, ⟨by decide, by decide, by decide, by decide, by decide⟩, rfl, heldNil _ _ _ _, R9, O9⟩)
  rw [HV.out]
  rfl


set_option maxRecDepth 20000 in
set_option maxHeartbeats 6400000 in
theorem rdStranger (R d f : Nat) (l r : List UInt8) (c : UInt8) (w : World) (hlr : l = c :: r) (k : Nat) (hk : kindT k = 124) (hc : c.toNat = k) (h : Rd w R l) (hl : l.length ≤ 1000000000) :
    Calls Tryz.prog 70 #[.pointer (some ⟨R, 0, none⟩), .int .i64 d] w (RdPost f R l w) := by
  have hv : rdV f l = rdK (if f = 0 then none else some (rdV (f - 1))) k r := by rw [hlr, rdV_cons, hc]
  have hrl : r.length ≤ l.length := by rw [hlr]; simp
  obtain ⟨W0, hW0⟩ : ∃ W0, W0 = w.alloc (.cells #[.int .i64 0, .bool false, .int .i64 0, .string ⟨#[]⟩, .string ⟨#[]⟩, .slice none 0 0] 28) := ⟨_, rfl⟩
  have S : Six W0 w.heap.size 0 false 0 ⟨#[]⟩ ⟨#[]⟩ none 0 0 := by rw [hW0]; exact six_new _ rfl
  have b0 : Below w.heap.size w W0 := by rw [hW0]; exact below1 _ _
  have hBR : w.heap.size ≠ R := by have := h.lt; omega
  have hi := kindInt R l r c k W0 hlr (by rw [hc]) (h.below b0) hl
  have O : Only R w W0 := Only.of_below b0
  have hl2 : r.length ≤ 1000000000 := by omega
  have hk256 : k < 256 := by rw [← hc]; exact UInt8.toNat_lt c
  have H0 := Lib.hid hW0
  have HV := Lib.hid hv
  clear hW0 hv h b0 hlr hc
  go_enter Tryz.func70, Tryz.ntmps70
  go_upto_region 22 with (first
    | (go_at_call 111; (try rw [← H0.out]); (with_reducible refine hi.mono ?_); rintro e w1 ⟨rfl, R1, O1⟩; replace S := S.only O1 hBR; have c0 := S.c0; have f0 := S.free 0; replace R1 := R1.six S ((Only.refl _ w1).setCell 0 none (.int .i64 k)) hBR; replace O := (O.trans O1).new ((Only.refl w.heap.size w1).setCell 0 none (.int .i64 k)) (Nat.le_refl _); replace S := S.set0 k; clear O1 hi)
    | ((with_reducible refine wpList_load6 (.tmp 4) w.heap.size S ?_ ?_ ?_ ?_); rfl; rfl; rfl)
    | (go_at_call 72; (with_reducible refine (kindOfAt k _ _ _ _ _ 124 hk.symm _).mono ?_); rintro e w2 ⟨rfl, hb2⟩; replace S := S.below hb2; replace R1 := R1.below hb2; replace O := O.trans (Only.of_below hb2); clear hb2 c0 f0)
    | (simp only [ta124_80, ta124_81, ta124_82, ta124_83, ta124_84, ta124_85, ta124_87, ta124_88, ta124_89, ta124_90, ta124_91, Result.andThen_ok]))
  go_wp2_with (first
    | ((with_reducible refine wpList_load6 (.tmp 4) w.heap.size S ?_ ?_ ?_ ?_); rfl; rfl; rfl)
    | ((with_reducible refine wpList_store6 (k' := k) (b' := false) (n' := 0) (t' := ⟨#[]⟩) (x' := ⟨#[]⟩) (p' := none) (len' := 0) (cap' := 0) (.tmp 4) (.tmp 105) w.heap.size S ?_ ?_ ?_ ?_ ?_); rfl; rfl; rfl; rfl; intro w9 on9 S9))
  have R9 := R1.six S on9 hBR
  have O9 := O.new on9 (Nat.le_refl _)
  refine bodyPost_ret (results_six_tmp (p := 4) (q := 5) Tryz.results70 _ (.bool true) rfl rfl S9) rfl (.inr ⟨k, false, 0, ⟨#[]⟩, ⟨#[]⟩, [], none, 0, r, ?_, hrl, ⟨by decide, by decide, by decide, by decide, by decide⟩, rfl, heldNil _ _ _ _, R9, O9⟩)
  rw [HV.out]
  obtain ⟨h0, h1, h2, h3, h4, h5, h6, h7, h8, h9, h10⟩ := strange hk
  unfold rdK
  rw [if_neg (by omega), if_neg (by omega), if_neg (by omega), if_neg (by omega), if_neg (by omega)]
  rfl


set_option maxRecDepth 20000 in
set_option maxHeartbeats 6400000 in
theorem rdWhole (R d f : Nat) (l r : List UInt8) (c : UInt8) (w : World) (hlr : l = c :: r) (hc : c.toNat = 2) (h : Rd w R l) (hl : l.length ≤ 1000000000) :
    Calls Tryz.prog 70 #[.pointer (some ⟨R, 0, none⟩), .int .i64 d] w (RdPost f R l w) := by
  have hv : rdV f l = rdK (if f = 0 then none else some (rdV (f - 1))) 2 r := by rw [hlr, rdV_cons, hc]
  have hrl : r.length ≤ l.length := by rw [hlr]; simp
  obtain ⟨W0, hW0⟩ : ∃ W0, W0 = w.alloc (.cells #[.int .i64 0, .bool false, .int .i64 0, .string ⟨#[]⟩, .string ⟨#[]⟩, .slice none 0 0] 28) := ⟨_, rfl⟩
  have S : Six W0 w.heap.size 0 false 0 ⟨#[]⟩ ⟨#[]⟩ none 0 0 := by rw [hW0]; exact six_new _ rfl
  have b0 : Below w.heap.size w W0 := by rw [hW0]; exact below1 _ _
  have hBR : w.heap.size ≠ R := by have := h.lt; omega
  have hi := kindInt R l r c 2 W0 hlr (by rw [hc]; rfl) (h.below b0) hl
  have O : Only R w W0 := Only.of_below b0
  have hl2 : r.length ≤ 1000000000 := by omega
  have H0 := Lib.hid hW0
  have HV := Lib.hid hv
  clear hW0 hv h b0 hlr hc
  go_enter Tryz.func70, Tryz.ntmps70
  go_upto_region 12 with (first
    | (go_at_call 111; (try rw [← H0.out]); (with_reducible refine hi.mono ?_); rintro e w1 ⟨rfl, R1, O1⟩; replace S := S.only O1 hBR; have c0 := S.c0; have f0 := S.free 0; replace R1 := R1.six S ((Only.refl _ w1).setCell 0 none (.int .i64 2)) hBR; replace O := (O.trans O1).new ((Only.refl w.heap.size w1).setCell 0 none (.int .i64 2)) (Nat.le_refl _); replace S := S.set0 2; clear O1 hi)
    | ((with_reducible refine wpList_load6 (.tmp 4) w.heap.size S ?_ ?_ ?_ ?_); rfl; rfl; rfl)
    | (go_at_call 72; (with_reducible refine (kindOfAt 2 _ _ _ _ _ 82 rfl _).mono ?_); rintro e w2 ⟨rfl, hb2⟩; replace S := S.below hb2; replace R1 := R1.below hb2; replace O := O.trans (Only.of_below hb2); clear hb2 c0 f0)
    | (simp only [ta82_80, ta82_81, ta82_82, ta82_83, ta82_84, ta82_85, ta82_87, ta82_88, ta82_89, ta82_90, ta82_91, Result.andThen_ok]))
  by_cases h8 : 8 ≤ r.length
  · have hm : ∀ W, Rd W R r → Calls Tryz.prog 111 #[.pointer (some ⟨R, 0, none⟩), .int .i64 8] W fun e w' => e = .returned (.tuple #[.int .u64 (numW (r.take 8)), .bool true]) ∧ Rd w' R (r.drop 8) ∧ Only R W w' := fun W hR => kindMany R W 8 (by omega) r h8 hR hl2
    have hlt : numW (r.take 8) < 18446744073709551616 := by
      have h1 := numW_lt (r.take 8)
      rw [List.length_take, Nat.min_eq_left h8] at h1
      exact h1
    have hz : IntKind.i64.wrap (numW (r.take 8) : Int) = toI64 (numW (r.take 8)) := wrap_toI64 _ hlt
    have hb := toI64_bounds _ hlt
    obtain ⟨z, hzz⟩ : ∃ z, z = toI64 (numW (r.take 8)) := ⟨_, rfl⟩
    obtain ⟨y, hy⟩ : ∃ y, y = numW (r.take 8) := ⟨_, rfl⟩
    rw [← hzz] at hb hz
    rw [← hy] at hm hz hlt hzz
    have HZ := Lib.hid hzz
    have HY := Lib.hid hy
    clear hzz hy
    go_upto_region 22 with (first
      | (go_at_call 111; (with_reducible refine (hm _ R1).mono ?_); rintro e w3 ⟨rfl, R3, O3⟩; replace S := S.only O3 hBR; have c2 := S.c2; have f2 := S.free 2; replace R1 := R3.six S ((Only.refl _ w3).setCell 2 none (.int .i64 z)) hBR; replace O := (O.trans O3).new ((Only.refl w.heap.size w3).setCell 2 none (.int .i64 z)) (Nat.le_refl _); replace S := S.set2 z; clear O3 R3))
    clear c2 f2
    go_wp2_with (first
      | ((with_reducible refine wpList_load6 (.tmp 4) w.heap.size S ?_ ?_ ?_ ?_); rfl; rfl; rfl)
      | ((with_reducible refine wpList_store6 (k' := 2) (b' := false) (n' := z) (t' := ⟨#[]⟩) (x' := ⟨#[]⟩) (p' := none) (len' := 0) (cap' := 0) (.tmp 4) (.tmp 105) w.heap.size S ?_ ?_ ?_ ?_ ?_); rfl; rfl; rfl; rfl; intro w9 on9 S9))
    have R9 := R1.six S on9 hBR
    have O9 := O.new on9 (Nat.le_refl _)
    refine bodyPost_ret (results_six_tmp (p := 4) (q := 5) Tryz.results70 _ (.bool true) rfl rfl S9) rfl (.inr ⟨2, false, z, ⟨#[]⟩, ⟨#[]⟩, [], none, 0, (r.drop 8), ?_, by rw [List.length_drop]; omega, ⟨by decide, by decide, by decide, hb.1, hb.2⟩, rfl, heldNil _ _ _ _, R9, O9⟩)
    rw [HV.out]
    show (if 8 ≤ r.length then some (Val.mk 2 false (toI64 (numW (r.take 8))) E0 E0 [], r.drop 8) else none) = _
    rw [if_pos h8, ← HY.out, ← HZ.out]
    rfl
  · have hm : ∀ W, Rd W R r → Calls Tryz.prog 111 #[.pointer (some ⟨R, 0, none⟩), .int .i64 8] W fun e w' => e = .returned (.tuple #[.int .u64 0, .bool false]) ∧ w' = W := fun W hR => kindNone R W 8 (by omega) (by omega) r (by omega) hR hl2
    go_upto_region 22 with (first
      | (go_at_call 111; (with_reducible refine (hm _ R1).mono ?_); rintro e w3 ⟨rfl, hw3⟩; rw [hw3]; have c2 := S.c2; have f2 := S.free 2; replace O := O.new ((Only.refl w.heap.size w2).setCell 2 none (.int .i64 0)) (Nat.le_refl _); replace S := S.set2 0))
    clear c2 f2
    go_wp2_with (first
      | ((with_reducible refine wpList_load6 (.tmp 4) w.heap.size S ?_ ?_ ?_ ?_); rfl; rfl; rfl)
      | ((with_reducible refine wpList_store6 (k' := 2) (b' := false) (n' := 0) (t' := ⟨#[]⟩) (x' := ⟨#[]⟩) (p' := none) (len' := 0) (cap' := 0) (.tmp 4) (.tmp 105) w.heap.size S ?_ ?_ ?_ ?_ ?_); rfl; rfl; rfl; rfl; intro w9 on9 S9))
    refine bodyPost_ret (results_six_tmp (p := 4) (q := 5) Tryz.results70 _ (.bool false) rfl rfl S9) rfl (.inl ⟨?_, ⟨_, _, _, _, _, _, _, _, rfl⟩, O.new on9 (Nat.le_refl _)⟩)
    rw [HV.out]
    show (if 8 ≤ r.length then some (Val.mk 2 false (toI64 (numW (r.take 8))) E0 E0 [], r.drop 8) else none) = _
    rw [if_neg h8]


set_option maxRecDepth 20000 in
set_option maxHeartbeats 6400000 in
theorem rdNode (R d f : Nat) (l r : List UInt8) (c : UInt8) (w : World) (hlr : l = c :: r) (hc : c.toNat = 6) (h : Rd w R l) (hl : l.length ≤ 1000000000) :
    Calls Tryz.prog 70 #[.pointer (some ⟨R, 0, none⟩), .int .i64 d] w (RdPost f R l w) := by
  have hv : rdV f l = rdK (if f = 0 then none else some (rdV (f - 1))) 6 r := by rw [hlr, rdV_cons, hc]
  have hrl : r.length ≤ l.length := by rw [hlr]; simp
  obtain ⟨W0, hW0⟩ : ∃ W0, W0 = w.alloc (.cells #[.int .i64 0, .bool false, .int .i64 0, .string ⟨#[]⟩, .string ⟨#[]⟩, .slice none 0 0] 28) := ⟨_, rfl⟩
  have S : Six W0 w.heap.size 0 false 0 ⟨#[]⟩ ⟨#[]⟩ none 0 0 := by rw [hW0]; exact six_new _ rfl
  have b0 : Below w.heap.size w W0 := by rw [hW0]; exact below1 _ _
  have hBR : w.heap.size ≠ R := by have := h.lt; omega
  have hi := kindInt R l r c 6 W0 hlr (by rw [hc]; rfl) (h.below b0) hl
  have O : Only R w W0 := Only.of_below b0
  have hl2 : r.length ≤ 1000000000 := by omega
  have H0 := Lib.hid hW0
  have HV := Lib.hid hv
  clear hW0 hv h b0 hlr hc
  go_enter Tryz.func70, Tryz.ntmps70
  go_upto_region 12 with (first
    | (go_at_call 111; (try rw [← H0.out]); (with_reducible refine hi.mono ?_); rintro e w1 ⟨rfl, R1, O1⟩; replace S := S.only O1 hBR; have c0 := S.c0; have f0 := S.free 0; replace R1 := R1.six S ((Only.refl _ w1).setCell 0 none (.int .i64 6)) hBR; replace O := (O.trans O1).new ((Only.refl w.heap.size w1).setCell 0 none (.int .i64 6)) (Nat.le_refl _); replace S := S.set0 6; clear O1 hi)
    | ((with_reducible refine wpList_load6 (.tmp 4) w.heap.size S ?_ ?_ ?_ ?_); rfl; rfl; rfl)
    | (go_at_call 72; (with_reducible refine (kindOfAt 6 _ _ _ _ _ 83 rfl _).mono ?_); rintro e w2 ⟨rfl, hb2⟩; replace S := S.below hb2; replace R1 := R1.below hb2; replace O := O.trans (Only.of_below hb2); clear hb2 c0 f0)
    | (simp only [ta83_80, ta83_81, ta83_82, ta83_83, ta83_84, ta83_85, ta83_87, ta83_88, ta83_89, ta83_90, ta83_91, Result.andThen_ok]))
  by_cases h8 : 8 ≤ r.length
  · have hm : ∀ W, Rd W R r → Calls Tryz.prog 111 #[.pointer (some ⟨R, 0, none⟩), .int .i64 8] W fun e w' => e = .returned (.tuple #[.int .u64 (numW (r.take 8)), .bool true]) ∧ Rd w' R (r.drop 8) ∧ Only R W w' := fun W hR => kindMany R W 8 (by omega) r h8 hR hl2
    have hlt : numW (r.take 8) < 18446744073709551616 := by
      have h1 := numW_lt (r.take 8)
      rw [List.length_take, Nat.min_eq_left h8] at h1
      exact h1
    have hz : IntKind.i64.wrap (numW (r.take 8) : Int) = toI64 (numW (r.take 8)) := wrap_toI64 _ hlt
    have hb := toI64_bounds _ hlt
    obtain ⟨z, hzz⟩ : ∃ z, z = toI64 (numW (r.take 8)) := ⟨_, rfl⟩
    obtain ⟨y, hy⟩ : ∃ y, y = numW (r.take 8) := ⟨_, rfl⟩
    rw [← hzz] at hb hz
    rw [← hy] at hm hz hlt hzz
    have HZ := Lib.hid hzz
    have HY := Lib.hid hy
    clear hzz hy
    go_upto_region 22 with (first
      | (go_at_call 111; (with_reducible refine (hm _ R1).mono ?_); rintro e w3 ⟨rfl, R3, O3⟩; replace S := S.only O3 hBR; have c2 := S.c2; have f2 := S.free 2; replace R1 := R3.six S ((Only.refl _ w3).setCell 2 none (.int .i64 z)) hBR; replace O := (O.trans O3).new ((Only.refl w.heap.size w3).setCell 2 none (.int .i64 z)) (Nat.le_refl _); replace S := S.set2 z; clear O3 R3))
    clear c2 f2
    go_wp2_with (first
      | ((with_reducible refine wpList_load6 (.tmp 4) w.heap.size S ?_ ?_ ?_ ?_); rfl; rfl; rfl)
      | ((with_reducible refine wpList_store6 (k' := 6) (b' := false) (n' := z) (t' := ⟨#[]⟩) (x' := ⟨#[]⟩) (p' := none) (len' := 0) (cap' := 0) (.tmp 4) (.tmp 105) w.heap.size S ?_ ?_ ?_ ?_ ?_); rfl; rfl; rfl; rfl; intro w9 on9 S9))
    have R9 := R1.six S on9 hBR
    have O9 := O.new on9 (Nat.le_refl _)
    refine bodyPost_ret (results_six_tmp (p := 4) (q := 5) Tryz.results70 _ (.bool true) rfl rfl S9) rfl (.inr ⟨6, false, z, ⟨#[]⟩, ⟨#[]⟩, [], none, 0, (r.drop 8), ?_, by rw [List.length_drop]; omega, ⟨by decide, by decide, by decide, hb.1, hb.2⟩, rfl, heldNil _ _ _ _, R9, O9⟩)
    rw [HV.out]
    show (if 8 ≤ r.length then some (Val.mk 6 false (toI64 (numW (r.take 8))) E0 E0 [], r.drop 8) else none) = _
    rw [if_pos h8, ← HY.out, ← HZ.out]
    rfl
  · have hm : ∀ W, Rd W R r → Calls Tryz.prog 111 #[.pointer (some ⟨R, 0, none⟩), .int .i64 8] W fun e w' => e = .returned (.tuple #[.int .u64 0, .bool false]) ∧ w' = W := fun W hR => kindNone R W 8 (by omega) (by omega) r (by omega) hR hl2
    go_upto_region 22 with (first
      | (go_at_call 111; (with_reducible refine (hm _ R1).mono ?_); rintro e w3 ⟨rfl, hw3⟩; rw [hw3]; have c2 := S.c2; have f2 := S.free 2; replace O := O.new ((Only.refl w.heap.size w2).setCell 2 none (.int .i64 0)) (Nat.le_refl _); replace S := S.set2 0))
    clear c2 f2
    go_wp2_with (first
      | ((with_reducible refine wpList_load6 (.tmp 4) w.heap.size S ?_ ?_ ?_ ?_); rfl; rfl; rfl)
      | ((with_reducible refine wpList_store6 (k' := 6) (b' := false) (n' := 0) (t' := ⟨#[]⟩) (x' := ⟨#[]⟩) (p' := none) (len' := 0) (cap' := 0) (.tmp 4) (.tmp 105) w.heap.size S ?_ ?_ ?_ ?_ ?_); rfl; rfl; rfl; rfl; intro w9 on9 S9))
    refine bodyPost_ret (results_six_tmp (p := 4) (q := 5) Tryz.results70 _ (.bool false) rfl rfl S9) rfl (.inl ⟨?_, ⟨_, _, _, _, _, _, _, _, rfl⟩, O.new on9 (Nat.le_refl _)⟩)
    rw [HV.out]
    show (if 8 ≤ r.length then some (Val.mk 6 false (toI64 (numW (r.take 8))) E0 E0 [], r.drop 8) else none) = _
    rw [if_neg h8]


set_option maxRecDepth 20000 in
set_option maxHeartbeats 6400000 in
theorem rdEdge (R d f : Nat) (l r : List UInt8) (c : UInt8) (w : World) (hlr : l = c :: r) (hc : c.toNat = 7) (h : Rd w R l) (hl : l.length ≤ 1000000000) :
    Calls Tryz.prog 70 #[.pointer (some ⟨R, 0, none⟩), .int .i64 d] w (RdPost f R l w) := by
  have hv : rdV f l = rdK (if f = 0 then none else some (rdV (f - 1))) 7 r := by rw [hlr, rdV_cons, hc]
  have hrl : r.length ≤ l.length := by rw [hlr]; simp
  obtain ⟨W0, hW0⟩ : ∃ W0, W0 = w.alloc (.cells #[.int .i64 0, .bool false, .int .i64 0, .string ⟨#[]⟩, .string ⟨#[]⟩, .slice none 0 0] 28) := ⟨_, rfl⟩
  have S : Six W0 w.heap.size 0 false 0 ⟨#[]⟩ ⟨#[]⟩ none 0 0 := by rw [hW0]; exact six_new _ rfl
  have b0 : Below w.heap.size w W0 := by rw [hW0]; exact below1 _ _
  have hBR : w.heap.size ≠ R := by have := h.lt; omega
  have hi := kindInt R l r c 7 W0 hlr (by rw [hc]; rfl) (h.below b0) hl
  have O : Only R w W0 := Only.of_below b0
  have hl2 : r.length ≤ 1000000000 := by omega
  have H0 := Lib.hid hW0
  have HV := Lib.hid hv
  clear hW0 hv h b0 hlr hc
  go_enter Tryz.func70, Tryz.ntmps70
  go_upto_region 12 with (first
    | (go_at_call 111; (try rw [← H0.out]); (with_reducible refine hi.mono ?_); rintro e w1 ⟨rfl, R1, O1⟩; replace S := S.only O1 hBR; have c0 := S.c0; have f0 := S.free 0; replace R1 := R1.six S ((Only.refl _ w1).setCell 0 none (.int .i64 7)) hBR; replace O := (O.trans O1).new ((Only.refl w.heap.size w1).setCell 0 none (.int .i64 7)) (Nat.le_refl _); replace S := S.set0 7; clear O1 hi)
    | ((with_reducible refine wpList_load6 (.tmp 4) w.heap.size S ?_ ?_ ?_ ?_); rfl; rfl; rfl)
    | (go_at_call 72; (with_reducible refine (kindOfAt 7 _ _ _ _ _ 84 rfl _).mono ?_); rintro e w2 ⟨rfl, hb2⟩; replace S := S.below hb2; replace R1 := R1.below hb2; replace O := O.trans (Only.of_below hb2); clear hb2 c0 f0)
    | (simp only [ta84_80, ta84_81, ta84_82, ta84_83, ta84_84, ta84_85, ta84_87, ta84_88, ta84_89, ta84_90, ta84_91, Result.andThen_ok]))
  by_cases h8 : 8 ≤ r.length
  · have hm : ∀ W, Rd W R r → Calls Tryz.prog 111 #[.pointer (some ⟨R, 0, none⟩), .int .i64 8] W fun e w' => e = .returned (.tuple #[.int .u64 (numW (r.take 8)), .bool true]) ∧ Rd w' R (r.drop 8) ∧ Only R W w' := fun W hR => kindMany R W 8 (by omega) r h8 hR hl2
    have hlt : numW (r.take 8) < 18446744073709551616 := by
      have h1 := numW_lt (r.take 8)
      rw [List.length_take, Nat.min_eq_left h8] at h1
      exact h1
    have hz : IntKind.i64.wrap (numW (r.take 8) : Int) = toI64 (numW (r.take 8)) := wrap_toI64 _ hlt
    have hb := toI64_bounds _ hlt
    obtain ⟨z, hzz⟩ : ∃ z, z = toI64 (numW (r.take 8)) := ⟨_, rfl⟩
    obtain ⟨y, hy⟩ : ∃ y, y = numW (r.take 8) := ⟨_, rfl⟩
    rw [← hzz] at hb hz
    rw [← hy] at hm hz hlt hzz
    have HZ := Lib.hid hzz
    have HY := Lib.hid hy
    clear hzz hy
    go_upto_region 22 with (first
      | (go_at_call 111; (with_reducible refine (hm _ R1).mono ?_); rintro e w3 ⟨rfl, R3, O3⟩; replace S := S.only O3 hBR; have c2 := S.c2; have f2 := S.free 2; replace R1 := R3.six S ((Only.refl _ w3).setCell 2 none (.int .i64 z)) hBR; replace O := (O.trans O3).new ((Only.refl w.heap.size w3).setCell 2 none (.int .i64 z)) (Nat.le_refl _); replace S := S.set2 z; clear O3 R3))
    clear c2 f2
    go_wp2_with (first
      | ((with_reducible refine wpList_load6 (.tmp 4) w.heap.size S ?_ ?_ ?_ ?_); rfl; rfl; rfl)
      | ((with_reducible refine wpList_store6 (k' := 7) (b' := false) (n' := z) (t' := ⟨#[]⟩) (x' := ⟨#[]⟩) (p' := none) (len' := 0) (cap' := 0) (.tmp 4) (.tmp 105) w.heap.size S ?_ ?_ ?_ ?_ ?_); rfl; rfl; rfl; rfl; intro w9 on9 S9))
    have R9 := R1.six S on9 hBR
    have O9 := O.new on9 (Nat.le_refl _)
    refine bodyPost_ret (results_six_tmp (p := 4) (q := 5) Tryz.results70 _ (.bool true) rfl rfl S9) rfl (.inr ⟨7, false, z, ⟨#[]⟩, ⟨#[]⟩, [], none, 0, (r.drop 8), ?_, by rw [List.length_drop]; omega, ⟨by decide, by decide, by decide, hb.1, hb.2⟩, rfl, heldNil _ _ _ _, R9, O9⟩)
    rw [HV.out]
    show (if 8 ≤ r.length then some (Val.mk 7 false (toI64 (numW (r.take 8))) E0 E0 [], r.drop 8) else none) = _
    rw [if_pos h8, ← HY.out, ← HZ.out]
    rfl
  · have hm : ∀ W, Rd W R r → Calls Tryz.prog 111 #[.pointer (some ⟨R, 0, none⟩), .int .i64 8] W fun e w' => e = .returned (.tuple #[.int .u64 0, .bool false]) ∧ w' = W := fun W hR => kindNone R W 8 (by omega) (by omega) r (by omega) hR hl2
    go_upto_region 22 with (first
      | (go_at_call 111; (with_reducible refine (hm _ R1).mono ?_); rintro e w3 ⟨rfl, hw3⟩; rw [hw3]; have c2 := S.c2; have f2 := S.free 2; replace O := O.new ((Only.refl w.heap.size w2).setCell 2 none (.int .i64 0)) (Nat.le_refl _); replace S := S.set2 0))
    clear c2 f2
    go_wp2_with (first
      | ((with_reducible refine wpList_load6 (.tmp 4) w.heap.size S ?_ ?_ ?_ ?_); rfl; rfl; rfl)
      | ((with_reducible refine wpList_store6 (k' := 7) (b' := false) (n' := 0) (t' := ⟨#[]⟩) (x' := ⟨#[]⟩) (p' := none) (len' := 0) (cap' := 0) (.tmp 4) (.tmp 105) w.heap.size S ?_ ?_ ?_ ?_ ?_); rfl; rfl; rfl; rfl; intro w9 on9 S9))
    refine bodyPost_ret (results_six_tmp (p := 4) (q := 5) Tryz.results70 _ (.bool false) rfl rfl S9) rfl (.inl ⟨?_, ⟨_, _, _, _, _, _, _, _, rfl⟩, O.new on9 (Nat.le_refl _)⟩)
    rw [HV.out]
    show (if 8 ≤ r.length then some (Val.mk 7 false (toI64 (numW (r.take 8))) E0 E0 [], r.drop 8) else none) = _
    rw [if_neg h8]


end Go.Proofs.YtoifjjgakblhhaaGreatDoor
