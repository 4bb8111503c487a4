/- Texts of one kind, one behind the other: each says ahead of itself what it shows. -/
import Derived.Test.YtffbcccbhofbpaaGreatDoorHas
/- The reader: bools, texts, literals, lists (given what list tells). -/
namespace Go.Proofs.YtffbcccbhofbpaaGreatDoor
open Go.RowKit

/-- What list tells of bytes. -/
def lstP (f : Nat) (l : List UInt8) : Option (List Val × List UInt8) := if f = 0 then none else if 4 ≤ l.length ∧ numW (l.take 4) ≤ 4096 then rdL (rdV (f - 1)) (numW (l.take 4)) (l.drop 4) else none
theorem rdK_list (f : Nat) (r : List UInt8) : rdK (if f = 0 then none else some (rdV (f - 1))) 5 r = (match lstP f r with
    | none => none
    | some (q, r') => some (.mk 5 false 0 E0 E0 q, r')) := by
  unfold rdK lstP
  rw [if_neg (by decide), if_neg (by decide), if_neg (by decide), if_neg (by decide), if_pos rfl]
  by_cases h0 : f = 0
  · rw [if_pos h0, if_pos h0]
  · rw [if_neg h0, if_neg h0]
    simp only
    split <;> rfl
/-- What list tells. -/
def LstPost (f R : Nat) (l : List UInt8) (w : World) (e : Ending) (w' : World) : Prop :=
  (lstP f l = none ∧ (∃ (p : Option Addr) (len cap : Nat), e = .returned (.tuple #[.slice p len cap, .bool false])) ∧ Only R w w') ∨
  (∃ (q : List Val) (p : Option Addr) (cap : Nat) (r : List UInt8), lstP f l = some (q, r) ∧ r.length ≤ l.length ∧ q.length ≤ 4096 ∧ e = .returned (.tuple #[.slice p q.length cap, .bool true]) ∧
    HeldT w' w.heap.size w'.heap.size (.slice p q.length cap) q ∧ Rd w' R r ∧ Only R w w')

set_option maxRecDepth 20000 in
set_option maxHeartbeats 6400000 in
theorem rdTruth (R d f : Nat) (l r : List UInt8) (c : UInt8) (w : World) (hlr : l = c :: r) (hc : c.toNat = 1) (h : Rd w R l) (hl : l.length ≤ 1000000000) :
    Calls Tryz.prog 41 #[.pointer (some ⟨R, 0, none⟩), .int .i64 d] w (RdPost f R l w) := by
  have hv : rdV f l = rdK (if f = 0 then none else some (rdV (f - 1))) 1 r := by rw [hlr, rdV_cons, hc]
  have hrl : r.length ≤ l.length := by rw [hlr]; simp
  obtain ⟨W0, hW0⟩ : ∃ W0, W0 = w.alloc (.cells #[.int .i64 0, .bool false, .int .i64 0, .string ⟨#[]⟩, .string ⟨#[]⟩, .slice none 0 0] 31) := ⟨_, rfl⟩
  have S : Six W0 w.heap.size 0 false 0 ⟨#[]⟩ ⟨#[]⟩ none 0 0 := by rw [hW0]; exact six_new _ rfl
  have b0 : Below w.heap.size w W0 := by rw [hW0]; exact below1 _ _
  have hBR : w.heap.size ≠ R := by have := h.lt; omega
  have hi := kindInt R l r c 1 W0 hlr (by rw [hc]; rfl) (h.below b0) hl
  have O : Only R w W0 := Only.of_below b0
  have hl2 : r.length ≤ 1000000000 := by omega
  have H0 := Lib.hid hW0
  have HV := Lib.hid hv
  clear hW0 hv h b0 hlr hc
  go_enter Tryz.func41, Tryz.ntmps41
  go_upto_region 8 with (first
    | (go_at_call 52; (try rw [← H0.out]); (with_reducible refine hi.mono ?_); rintro e w1 ⟨rfl, R1, O1⟩; replace S := S.only O1 hBR; have c0 := S.c0; have f0 := S.free 0; replace R1 := R1.six S ((Only.refl _ w1).setCell 0 none (.int .i64 1)) hBR; replace O := (O.trans O1).new ((Only.refl w.heap.size w1).setCell 0 none (.int .i64 1)) (Nat.le_refl _); replace S := S.set0 1; clear O1 hi)
    | ((with_reducible refine wpList_load6 (.tmp 4) w.heap.size S ?_ ?_ ?_ ?_); rfl; rfl; rfl)
    | (go_at_call 47; (with_reducible refine (kindOfAt 1 _ _ _ _ _ 91 rfl _).mono ?_); rintro e w2 ⟨rfl, hb2⟩; replace S := S.below hb2; replace R1 := R1.below hb2; replace O := O.trans (Only.of_below hb2); clear hb2 c0 f0)
    | (simp only [ta91_113, ta91_91, ta91_93, ta91_94, ta91_95, ta91_97, ta91_98, ta91_99, ta91_100, ta91_102, ta91_103, Result.andThen_ok]))
  cases r with
  | nil =>
    have hm : ∀ W, Rd W R [] → Calls Tryz.prog 52 #[.pointer (some ⟨R, 0, none⟩), .int .i64 1] W fun e w' => e = .returned (.tuple #[.int .u64 0, .bool false]) ∧ w' = W := fun W hR => kindNone R W 1 (by omega) (by omega) [] (by decide) hR (by decide)
    go_upto_region 22 with (first
      | (go_at_call 52; (with_reducible refine (hm _ R1).mono ?_); rintro e w3 ⟨rfl, hw3⟩; rw [hw3]; have c1 := S.c1; have f1 := S.free 1; replace O := O.new ((Only.refl w.heap.size w2).setCell 1 none (.bool false)) (Nat.le_refl _); replace S := S.set1 false))
    clear c1 f1
    go_wp2_with (first
      | ((with_reducible refine wpList_load6 (.tmp 4) w.heap.size S ?_ ?_ ?_ ?_); rfl; rfl; rfl)
      | ((with_reducible refine wpList_store6 (k' := 1) (b' := false) (n' := 0) (t' := ⟨#[]⟩) (x' := ⟨#[]⟩) (p' := none) (len' := 0) (cap' := 0) (.tmp 4) (.tmp 105) w.heap.size S ?_ ?_ ?_ ?_ ?_); rfl; rfl; rfl; rfl; intro w9 on9 S9))
    refine bodyPost_ret (results_six_tmp (p := 4) (q := 5) Tryz.results41 _ (.bool false) rfl rfl S9) rfl (.inl ⟨?_, ⟨_, _, _, _, _, _, _, _, rfl⟩, O.new on9 (Nat.le_refl _)⟩)
    rw [HV.out]
    rfl
  | cons b r' =>
    have hrl2 : r'.length ≤ l.length := Nat.le_trans (by simp) hrl
    by_cases hb0 : b.toNat = 0
    · have hbx : (b.toNat : Int) = 0 := by omega
      have hm : ∀ W, Rd W R (b :: r') → Calls Tryz.prog 52 #[.pointer (some ⟨R, 0, none⟩), .int .i64 1] W fun e w' => e = .returned (.tuple #[.int .u64 0, .bool true]) ∧ Rd w' R r' ∧ Only R W w' := fun W hR => kindInt R (b :: r') r' b 0 W rfl hbx hR hl2
      go_upto_region 22 with (first
        | (go_at_call 52; (with_reducible refine (hm _ R1).mono ?_); rintro e w3 ⟨rfl, R3, O3⟩; replace S := S.only O3 hBR; have c1 := S.c1; have f1 := S.free 1; replace R1 := R3.six S ((Only.refl _ w3).setCell 1 none (.bool false)) hBR; replace O := (O.trans O3).new ((Only.refl w.heap.size w3).setCell 1 none (.bool false)) (Nat.le_refl _); replace S := S.set1 false; clear O3 R3))
      clear c1 f1
      go_wp2_with (first
        | ((with_reducible refine wpList_load6 (.tmp 4) w.heap.size S ?_ ?_ ?_ ?_); rfl; rfl; rfl)
        | ((with_reducible refine wpList_store6 (k' := 1) (b' := false) (n' := 0) (t' := ⟨#[]⟩) (x' := ⟨#[]⟩) (p' := none) (len' := 0) (cap' := 0) (.tmp 4) (.tmp 105) w.heap.size S ?_ ?_ ?_ ?_ ?_); rfl; rfl; rfl; rfl; intro w9 on9 S9))
      have R9 := R1.six S on9 hBR
      have O9 := O.new on9 (Nat.le_refl _)
      refine bodyPost_ret (results_six_tmp (p := 4) (q := 5) Tryz.results41 _ (.bool true) rfl rfl S9) rfl (.inr ⟨1, false, 0, ⟨#[]⟩, ⟨#[]⟩, [], none, 0, r', ?_, hrl2, ⟨by decide, by decide, by decide, by decide, by decide⟩, rfl, heldNil _ _ _ _ _, R9, O9⟩)
      rw [HV.out]
      show (if b.toNat ≤ 1 then some (Val.mk 1 (b.toNat == 1) 0 E0 E0 [], r') else none) = _
      rw [if_pos (by omega), hb0]
      rfl
    · by_cases hb1 : b.toNat = 1
      · have hbx : (b.toNat : Int) = 1 := by omega
        have hm : ∀ W, Rd W R (b :: r') → Calls Tryz.prog 52 #[.pointer (some ⟨R, 0, none⟩), .int .i64 1] W fun e w' => e = .returned (.tuple #[.int .u64 1, .bool true]) ∧ Rd w' R r' ∧ Only R W w' := fun W hR => kindInt R (b :: r') r' b 1 W rfl hbx hR hl2
        go_upto_region 22 with (first
          | (go_at_call 52; (with_reducible refine (hm _ R1).mono ?_); rintro e w3 ⟨rfl, R3, O3⟩; replace S := S.only O3 hBR; have c1 := S.c1; have f1 := S.free 1; replace R1 := R3.six S ((Only.refl _ w3).setCell 1 none (.bool true)) hBR; replace O := (O.trans O3).new ((Only.refl w.heap.size w3).setCell 1 none (.bool true)) (Nat.le_refl _); replace S := S.set1 true; clear O3 R3))
        clear c1 f1
        go_wp2_with (first
          | ((with_reducible refine wpList_load6 (.tmp 4) w.heap.size S ?_ ?_ ?_ ?_); rfl; rfl; rfl)
          | ((with_reducible refine wpList_store6 (k' := 1) (b' := true) (n' := 0) (t' := ⟨#[]⟩) (x' := ⟨#[]⟩) (p' := none) (len' := 0) (cap' := 0) (.tmp 4) (.tmp 105) w.heap.size S ?_ ?_ ?_ ?_ ?_); rfl; rfl; rfl; rfl; intro w9 on9 S9))
        have R9 := R1.six S on9 hBR
        have O9 := O.new on9 (Nat.le_refl _)
        refine bodyPost_ret (results_six_tmp (p := 4) (q := 5) Tryz.results41 _ (.bool true) rfl rfl S9) rfl (.inr ⟨1, true, 0, ⟨#[]⟩, ⟨#[]⟩, [], none, 0, r', ?_, hrl2, ⟨by decide, by decide, by decide, by decide, by decide⟩, rfl, heldNil _ _ _ _ _, R9, O9⟩)
        rw [HV.out]
        show (if b.toNat ≤ 1 then some (Val.mk 1 (b.toNat == 1) 0 E0 E0 [], r') else none) = _
        rw [if_pos (by omega), hb1]
        rfl
      · obtain ⟨x, hbx⟩ : ∃ x : Int, (b.toNat : Int) = x := ⟨_, rfl⟩
        have hx2 : 2 ≤ x := by omega
        have hx3 : x < 256 := by have := UInt8.toNat_lt b; omega
        have hx4 : ¬x = 1 := by omega
        have hx5 : ¬x ≤ 1 := by omega
        have hx6 : (x == 1) = false := by simpa using hx4
        have hx8 : decide (x ≤ 1) = false := decide_eq_false hx5
        have hm : ∀ W, Rd W R (b :: r') → Calls Tryz.prog 52 #[.pointer (some ⟨R, 0, none⟩), .int .i64 1] W fun e w' => e = .returned (.tuple #[.int .u64 x, .bool true]) ∧ Rd w' R r' ∧ Only R W w' := fun W hR => kindInt R (b :: r') r' b x W rfl hbx hR hl2
        go_upto_region 22 with (first
          | (go_at_call 52; (with_reducible refine (hm _ R1).mono ?_); rintro e w3 ⟨rfl, R3, O3⟩; replace S := S.only O3 hBR; have c1 := S.c1; have f1 := S.free 1; replace R1 := R3.six S ((Only.refl _ w3).setCell 1 none (.bool false)) hBR; replace O := (O.trans O3).new ((Only.refl w.heap.size w3).setCell 1 none (.bool false)) (Nat.le_refl _); replace S := S.set1 false; clear O3 R3))
        clear c1 f1
        go_wp2_with (first
          | ((with_reducible refine wpList_load6 (.tmp 4) w.heap.size S ?_ ?_ ?_ ?_); rfl; rfl; rfl)
          | ((with_reducible refine wpList_store6 (k' := 1) (b' := false) (n' := 0) (t' := ⟨#[]⟩) (x' := ⟨#[]⟩) (p' := none) (len' := 0) (cap' := 0) (.tmp 4) (.tmp 105) w.heap.size S ?_ ?_ ?_ ?_ ?_); rfl; rfl; rfl; rfl; intro w9 on9 S9))
        refine bodyPost_ret (results_six_tmp (p := 4) (q := 5) Tryz.results41 _ (.bool false) rfl rfl S9) rfl (.inl ⟨?_, ⟨_, _, _, _, _, _, _, _, rfl⟩, O.new on9 (Nat.le_refl _)⟩)
        rw [HV.out]
        show (if b.toNat ≤ 1 then some (Val.mk 1 (b.toNat == 1) 0 E0 E0 [], r') else none) = _
        rw [if_neg (by omega)]


set_option maxRecDepth 20000 in
set_option maxHeartbeats 6400000 in
theorem rdExact (R d f : Nat) (l r : List UInt8) (c : UInt8) (w : World) (hlr : l = c :: r) (hc : c.toNat = 3) (h : Rd w R l) (hl : l.length ≤ 1000000000) :
    Calls Tryz.prog 41 #[.pointer (some ⟨R, 0, none⟩), .int .i64 d] w (RdPost f R l w) := by
  have hv : rdV f l = rdK (if f = 0 then none else some (rdV (f - 1))) 3 r := by rw [hlr, rdV_cons, hc]
  have hrl : r.length ≤ l.length := by rw [hlr]; simp
  obtain ⟨W0, hW0⟩ : ∃ W0, W0 = w.alloc (.cells #[.int .i64 0, .bool false, .int .i64 0, .string ⟨#[]⟩, .string ⟨#[]⟩, .slice none 0 0] 31) := ⟨_, rfl⟩
  have S : Six W0 w.heap.size 0 false 0 ⟨#[]⟩ ⟨#[]⟩ none 0 0 := by rw [hW0]; exact six_new _ rfl
  have b0 : Below w.heap.size w W0 := by rw [hW0]; exact below1 _ _
  have hBR : w.heap.size ≠ R := by have := h.lt; omega
  have hi := kindInt R l r c 3 W0 hlr (by rw [hc]; rfl) (h.below b0) hl
  have O : Only R w W0 := Only.of_below b0
  have hl2 : r.length ≤ 1000000000 := by omega
  have H0 := Lib.hid hW0
  have HV := Lib.hid hv
  clear hW0 hv h b0 hlr hc
  go_enter Tryz.func41, Tryz.ntmps41
  go_upto_region 15 with (first
    | (go_at_call 52; (try rw [← H0.out]); (with_reducible refine hi.mono ?_); rintro e w1 ⟨rfl, R1, O1⟩; replace S := S.only O1 hBR; have c0 := S.c0; have f0 := S.free 0; replace R1 := R1.six S ((Only.refl _ w1).setCell 0 none (.int .i64 3)) hBR; replace O := (O.trans O1).new ((Only.refl w.heap.size w1).setCell 0 none (.int .i64 3)) (Nat.le_refl _); replace S := S.set0 3; clear O1 hi)
    | ((with_reducible refine wpList_load6 (.tmp 4) w.heap.size S ?_ ?_ ?_ ?_); rfl; rfl; rfl)
    | (go_at_call 47; (with_reducible refine (kindOfAt 3 _ _ _ _ _ 97 rfl _).mono ?_); rintro e w2 ⟨rfl, hb2⟩; replace S := S.below hb2; replace R1 := R1.below hb2; replace O := O.trans (Only.of_below hb2); clear hb2 c0 f0)
    | (simp only [ta97_113, ta97_91, ta97_93, ta97_94, ta97_95, ta97_97, ta97_98, ta97_99, ta97_100, ta97_102, ta97_103, Result.andThen_ok]))
  cases ht : rdT r with
  | none =>
    have hm : ∀ W, Rd W R r → Calls Tryz.prog 53 #[.pointer (some ⟨R, 0, none⟩)] W fun e w' => (∃ t : ByteArray, e = .returned (.tuple #[.string t, .bool false])) ∧ Only R W w' := fun W hR => (textAtR R r W hR hl2).mono (by
      rintro e w' (⟨_, he, h3⟩ | ⟨t', r', h, _⟩)
      · exact ⟨he, h3⟩
      · rw [ht] at h; cases h)
    go_upto_region 22 with (first
      | (go_at_call 53; (with_reducible refine (hm _ R1).mono ?_); rintro e w3 ⟨⟨t, rfl⟩, O3⟩; replace S := S.only O3 hBR; have c3 := S.c3; have f3 := S.free 3; replace O := (O.trans O3).new ((Only.refl w.heap.size w3).setCell 3 none (.string t)) (Nat.le_refl _); replace S := S.set3 t; clear O3))
    clear c3 f3
    go_wp2_with (first
      | ((with_reducible refine wpList_load6 (.tmp 4) w.heap.size S ?_ ?_ ?_ ?_); rfl; rfl; rfl)
      | ((with_reducible refine wpList_store6 (k' := 3) (b' := false) (n' := 0) (t' := t) (x' := ⟨#[]⟩) (p' := none) (len' := 0) (cap' := 0) (.tmp 4) (.tmp 105) w.heap.size S ?_ ?_ ?_ ?_ ?_); rfl; rfl; rfl; rfl; intro w9 on9 S9))
    refine bodyPost_ret (results_six_tmp (p := 4) (q := 5) Tryz.results41 _ (.bool false) rfl rfl S9) rfl (.inl ⟨?_, ⟨_, _, _, _, _, _, _, _, rfl⟩, O.new on9 (Nat.le_refl _)⟩)
    rw [HV.out]
    show (match rdT r with | none => none | some (t, r') => some (Val.mk 3 false 0 t E0 [], r')) = _
    rw [ht]
  | some pp =>
    obtain ⟨t, r'⟩ := pp
    have hm : ∀ W, Rd W R r → Calls Tryz.prog 53 #[.pointer (some ⟨R, 0, none⟩)] W fun e w' => e = .returned (.tuple #[.string t, .bool true]) ∧ t.size ≤ 1048576 ∧ r'.length ≤ r.length ∧ Rd w' R r' ∧ Only R W w' := fun W hR => (textAtR R r W hR hl2).mono (by
      rintro e w' (⟨h, _⟩ | ⟨t', r', h, h1, h2, he, h3⟩)
      · rw [ht] at h; cases h
      · rw [ht] at h
        simp only [Option.some.injEq, Prod.mk.injEq] at h
        obtain ⟨rfl, rfl⟩ := h
        exact ⟨he, h1, h2, h3⟩)
    go_upto_region 22 with (first
      | (go_at_call 53; (with_reducible refine (hm _ R1).mono ?_); rintro e w3 ⟨rfl, h1, h2, R3, O3⟩; replace S := S.only O3 hBR; have c3 := S.c3; have f3 := S.free 3; replace R1 := R3.six S ((Only.refl _ w3).setCell 3 none (.string t)) hBR; replace O := (O.trans O3).new ((Only.refl w.heap.size w3).setCell 3 none (.string t)) (Nat.le_refl _); replace S := S.set3 t; clear O3 R3))
    clear c3 f3
    go_wp2_with (first
      | ((with_reducible refine wpList_load6 (.tmp 4) w.heap.size S ?_ ?_ ?_ ?_); rfl; rfl; rfl)
      | ((with_reducible refine wpList_store6 (k' := 3) (b' := false) (n' := 0) (t' := t) (x' := ⟨#[]⟩) (p' := none) (len' := 0) (cap' := 0) (.tmp 4) (.tmp 105) w.heap.size S ?_ ?_ ?_ ?_ ?_); rfl; rfl; rfl; rfl; intro w9 on9 S9))
    have R9 := R1.six S on9 hBR
    have O9 := O.new on9 (Nat.le_refl _)
    refine bodyPost_ret (results_six_tmp (p := 4) (q := 5) Tryz.results41 _ (.bool true) rfl rfl S9) rfl (.inr ⟨3, false, 0, t, ⟨#[]⟩, [], none, 0, r', ?_, (by omega), ⟨by omega, by decide, by decide, by decide, by decide⟩, rfl, heldNil _ _ _ _ _, R9, O9⟩)
    rw [HV.out]
    show (match rdT r with | none => none | some (t, r') => some (Val.mk 3 false 0 t E0 [], r')) = _
    rw [ht]
    rfl


set_option maxRecDepth 20000 in
set_option maxHeartbeats 6400000 in
theorem rdText (R d f : Nat) (l r : List UInt8) (c : UInt8) (w : World) (hlr : l = c :: r) (hc : c.toNat = 4) (h : Rd w R l) (hl : l.length ≤ 1000000000) :
    Calls Tryz.prog 41 #[.pointer (some ⟨R, 0, none⟩), .int .i64 d] w (RdPost f R l w) := by
  have hv : rdV f l = rdK (if f = 0 then none else some (rdV (f - 1))) 4 r := by rw [hlr, rdV_cons, hc]
  have hrl : r.length ≤ l.length := by rw [hlr]; simp
  obtain ⟨W0, hW0⟩ : ∃ W0, W0 = w.alloc (.cells #[.int .i64 0, .bool false, .int .i64 0, .string ⟨#[]⟩, .string ⟨#[]⟩, .slice none 0 0] 31) := ⟨_, rfl⟩
  have S : Six W0 w.heap.size 0 false 0 ⟨#[]⟩ ⟨#[]⟩ none 0 0 := by rw [hW0]; exact six_new _ rfl
  have b0 : Below w.heap.size w W0 := by rw [hW0]; exact below1 _ _
  have hBR : w.heap.size ≠ R := by have := h.lt; omega
  have hi := kindInt R l r c 4 W0 hlr (by rw [hc]; rfl) (h.below b0) hl
  have O : Only R w W0 := Only.of_below b0
  have hl2 : r.length ≤ 1000000000 := by omega
  have H0 := Lib.hid hW0
  have HV := Lib.hid hv
  clear hW0 hv h b0 hlr hc
  go_enter Tryz.func41, Tryz.ntmps41
  go_upto_region 15 with (first
    | (go_at_call 52; (try rw [← H0.out]); (with_reducible refine hi.mono ?_); rintro e w1 ⟨rfl, R1, O1⟩; replace S := S.only O1 hBR; have c0 := S.c0; have f0 := S.free 0; replace R1 := R1.six S ((Only.refl _ w1).setCell 0 none (.int .i64 4)) hBR; replace O := (O.trans O1).new ((Only.refl w.heap.size w1).setCell 0 none (.int .i64 4)) (Nat.le_refl _); replace S := S.set0 4; clear O1 hi)
    | ((with_reducible refine wpList_load6 (.tmp 4) w.heap.size S ?_ ?_ ?_ ?_); rfl; rfl; rfl)
    | (go_at_call 47; (with_reducible refine (kindOfAt 4 _ _ _ _ _ 98 rfl _).mono ?_); rintro e w2 ⟨rfl, hb2⟩; replace S := S.below hb2; replace R1 := R1.below hb2; replace O := O.trans (Only.of_below hb2); clear hb2 c0 f0)
    | (simp only [ta98_113, ta98_91, ta98_93, ta98_94, ta98_95, ta98_97, ta98_98, ta98_99, ta98_100, ta98_102, ta98_103, Result.andThen_ok]))
  cases ht : rdT r with
  | none =>
    have hm : ∀ W, Rd W R r → Calls Tryz.prog 53 #[.pointer (some ⟨R, 0, none⟩)] W fun e w' => (∃ t : ByteArray, e = .returned (.tuple #[.string t, .bool false])) ∧ Only R W w' := fun W hR => (textAtR R r W hR hl2).mono (by
      rintro e w' (⟨_, he, h3⟩ | ⟨t', r', h, _⟩)
      · exact ⟨he, h3⟩
      · rw [ht] at h; cases h)
    go_upto_region 22 with (first
      | (go_at_call 53; (with_reducible refine (hm _ R1).mono ?_); rintro e w3 ⟨⟨t, rfl⟩, O3⟩; replace S := S.only O3 hBR; have c3 := S.c3; have f3 := S.free 3; replace O := (O.trans O3).new ((Only.refl w.heap.size w3).setCell 3 none (.string t)) (Nat.le_refl _); replace S := S.set3 t; clear O3))
    clear c3 f3
    go_wp2_with (first
      | ((with_reducible refine wpList_load6 (.tmp 4) w.heap.size S ?_ ?_ ?_ ?_); rfl; rfl; rfl)
      | ((with_reducible refine wpList_store6 (k' := 4) (b' := false) (n' := 0) (t' := t) (x' := ⟨#[]⟩) (p' := none) (len' := 0) (cap' := 0) (.tmp 4) (.tmp 105) w.heap.size S ?_ ?_ ?_ ?_ ?_); rfl; rfl; rfl; rfl; intro w9 on9 S9))
    refine bodyPost_ret (results_six_tmp (p := 4) (q := 5) Tryz.results41 _ (.bool false) rfl rfl S9) rfl (.inl ⟨?_, ⟨_, _, _, _, _, _, _, _, rfl⟩, O.new on9 (Nat.le_refl _)⟩)
    rw [HV.out]
    show (match rdT r with | none => none | some (t, r') => some (Val.mk 4 false 0 t E0 [], r')) = _
    rw [ht]
  | some pp =>
    obtain ⟨t, r'⟩ := pp
    have hm : ∀ W, Rd W R r → Calls Tryz.prog 53 #[.pointer (some ⟨R, 0, none⟩)] W fun e w' => e = .returned (.tuple #[.string t, .bool true]) ∧ t.size ≤ 1048576 ∧ r'.length ≤ r.length ∧ Rd w' R r' ∧ Only R W w' := fun W hR => (textAtR R r W hR hl2).mono (by
      rintro e w' (⟨h, _⟩ | ⟨t', r', h, h1, h2, he, h3⟩)
      · rw [ht] at h; cases h
      · rw [ht] at h
        simp only [Option.some.injEq, Prod.mk.injEq] at h
        obtain ⟨rfl, rfl⟩ := h
        exact ⟨he, h1, h2, h3⟩)
    go_upto_region 22 with (first
      | (go_at_call 53; (with_reducible refine (hm _ R1).mono ?_); rintro e w3 ⟨rfl, h1, h2, R3, O3⟩; replace S := S.only O3 hBR; have c3 := S.c3; have f3 := S.free 3; replace R1 := R3.six S ((Only.refl _ w3).setCell 3 none (.string t)) hBR; replace O := (O.trans O3).new ((Only.refl w.heap.size w3).setCell 3 none (.string t)) (Nat.le_refl _); replace S := S.set3 t; clear O3 R3))
    clear c3 f3
    go_wp2_with (first
      | ((with_reducible refine wpList_load6 (.tmp 4) w.heap.size S ?_ ?_ ?_ ?_); rfl; rfl; rfl)
      | ((with_reducible refine wpList_store6 (k' := 4) (b' := false) (n' := 0) (t' := t) (x' := ⟨#[]⟩) (p' := none) (len' := 0) (cap' := 0) (.tmp 4) (.tmp 105) w.heap.size S ?_ ?_ ?_ ?_ ?_); rfl; rfl; rfl; rfl; intro w9 on9 S9))
    have R9 := R1.six S on9 hBR
    have O9 := O.new on9 (Nat.le_refl _)
    refine bodyPost_ret (results_six_tmp (p := 4) (q := 5) Tryz.results41 _ (.bool true) rfl rfl S9) rfl (.inr ⟨4, false, 0, t, ⟨#[]⟩, [], none, 0, r', ?_, (by omega), ⟨by omega, by decide, by decide, by decide, by decide⟩, rfl, heldNil _ _ _ _ _, R9, O9⟩)
    rw [HV.out]
    show (match rdT r with | none => none | some (t, r') => some (Val.mk 4 false 0 t E0 [], r')) = _
    rw [ht]
    rfl


set_option maxRecDepth 20000 in
set_option maxHeartbeats 6400000 in
theorem rdIri (R d f : Nat) (l r : List UInt8) (c : UInt8) (w : World) (hlr : l = c :: r) (hc : c.toNat = 8) (h : Rd w R l) (hl : l.length ≤ 1000000000) :
    Calls Tryz.prog 41 #[.pointer (some ⟨R, 0, none⟩), .int .i64 d] w (RdPost f R l w) := by
  have hv : rdV f l = rdK (if f = 0 then none else some (rdV (f - 1))) 8 r := by rw [hlr, rdV_cons, hc]
  have hrl : r.length ≤ l.length := by rw [hlr]; simp
  obtain ⟨W0, hW0⟩ : ∃ W0, W0 = w.alloc (.cells #[.int .i64 0, .bool false, .int .i64 0, .string ⟨#[]⟩, .string ⟨#[]⟩, .slice none 0 0] 31) := ⟨_, rfl⟩
  have S : Six W0 w.heap.size 0 false 0 ⟨#[]⟩ ⟨#[]⟩ none 0 0 := by rw [hW0]; exact six_new _ rfl
  have b0 : Below w.heap.size w W0 := by rw [hW0]; exact below1 _ _
  have hBR : w.heap.size ≠ R := by have := h.lt; omega
  have hi := kindInt R l r c 8 W0 hlr (by rw [hc]; rfl) (h.below b0) hl
  have O : Only R w W0 := Only.of_below b0
  have hl2 : r.length ≤ 1000000000 := by omega
  have H0 := Lib.hid hW0
  have HV := Lib.hid hv
  clear hW0 hv h b0 hlr hc
  go_enter Tryz.func41, Tryz.ntmps41
  go_upto_region 15 with (first
    | (go_at_call 52; (try rw [← H0.out]); (with_reducible refine hi.mono ?_); rintro e w1 ⟨rfl, R1, O1⟩; replace S := S.only O1 hBR; have c0 := S.c0; have f0 := S.free 0; replace R1 := R1.six S ((Only.refl _ w1).setCell 0 none (.int .i64 8)) hBR; replace O := (O.trans O1).new ((Only.refl w.heap.size w1).setCell 0 none (.int .i64 8)) (Nat.le_refl _); replace S := S.set0 8; clear O1 hi)
    | ((with_reducible refine wpList_load6 (.tmp 4) w.heap.size S ?_ ?_ ?_ ?_); rfl; rfl; rfl)
    | (go_at_call 47; (with_reducible refine (kindOfAt 8 _ _ _ _ _ 99 rfl _).mono ?_); rintro e w2 ⟨rfl, hb2⟩; replace S := S.below hb2; replace R1 := R1.below hb2; replace O := O.trans (Only.of_below hb2); clear hb2 c0 f0)
    | (simp only [ta99_113, ta99_91, ta99_93, ta99_94, ta99_95, ta99_97, ta99_98, ta99_99, ta99_100, ta99_102, ta99_103, Result.andThen_ok]))
  cases ht : rdT r with
  | none =>
    have hm : ∀ W, Rd W R r → Calls Tryz.prog 53 #[.pointer (some ⟨R, 0, none⟩)] W fun e w' => (∃ t : ByteArray, e = .returned (.tuple #[.string t, .bool false])) ∧ Only R W w' := fun W hR => (textAtR R r W hR hl2).mono (by
      rintro e w' (⟨_, he, h3⟩ | ⟨t', r', h, _⟩)
      · exact ⟨he, h3⟩
      · rw [ht] at h; cases h)
    go_upto_region 22 with (first
      | (go_at_call 53; (with_reducible refine (hm _ R1).mono ?_); rintro e w3 ⟨⟨t, rfl⟩, O3⟩; replace S := S.only O3 hBR; have c3 := S.c3; have f3 := S.free 3; replace O := (O.trans O3).new ((Only.refl w.heap.size w3).setCell 3 none (.string t)) (Nat.le_refl _); replace S := S.set3 t; clear O3))
    clear c3 f3
    go_wp2_with (first
      | ((with_reducible refine wpList_load6 (.tmp 4) w.heap.size S ?_ ?_ ?_ ?_); rfl; rfl; rfl)
      | ((with_reducible refine wpList_store6 (k' := 8) (b' := false) (n' := 0) (t' := t) (x' := ⟨#[]⟩) (p' := none) (len' := 0) (cap' := 0) (.tmp 4) (.tmp 105) w.heap.size S ?_ ?_ ?_ ?_ ?_); rfl; rfl; rfl; rfl; intro w9 on9 S9))
    refine bodyPost_ret (results_six_tmp (p := 4) (q := 5) Tryz.results41 _ (.bool false) rfl rfl S9) rfl (.inl ⟨?_, ⟨_, _, _, _, _, _, _, _, rfl⟩, O.new on9 (Nat.le_refl _)⟩)
    rw [HV.out]
    show (match rdT r with | none => none | some (t, r') => some (Val.mk 8 false 0 t E0 [], r')) = _
    rw [ht]
  | some pp =>
    obtain ⟨t, r'⟩ := pp
    have hm : ∀ W, Rd W R r → Calls Tryz.prog 53 #[.pointer (some ⟨R, 0, none⟩)] W fun e w' => e = .returned (.tuple #[.string t, .bool true]) ∧ t.size ≤ 1048576 ∧ r'.length ≤ r.length ∧ Rd w' R r' ∧ Only R W w' := fun W hR => (textAtR R r W hR hl2).mono (by
      rintro e w' (⟨h, _⟩ | ⟨t', r', h, h1, h2, he, h3⟩)
      · rw [ht] at h; cases h
      · rw [ht] at h
        simp only [Option.some.injEq, Prod.mk.injEq] at h
        obtain ⟨rfl, rfl⟩ := h
        exact ⟨he, h1, h2, h3⟩)
    go_upto_region 22 with (first
      | (go_at_call 53; (with_reducible refine (hm _ R1).mono ?_); rintro e w3 ⟨rfl, h1, h2, R3, O3⟩; replace S := S.only O3 hBR; have c3 := S.c3; have f3 := S.free 3; replace R1 := R3.six S ((Only.refl _ w3).setCell 3 none (.string t)) hBR; replace O := (O.trans O3).new ((Only.refl w.heap.size w3).setCell 3 none (.string t)) (Nat.le_refl _); replace S := S.set3 t; clear O3 R3))
    clear c3 f3
    go_wp2_with (first
      | ((with_reducible refine wpList_load6 (.tmp 4) w.heap.size S ?_ ?_ ?_ ?_); rfl; rfl; rfl)
      | ((with_reducible refine wpList_store6 (k' := 8) (b' := false) (n' := 0) (t' := t) (x' := ⟨#[]⟩) (p' := none) (len' := 0) (cap' := 0) (.tmp 4) (.tmp 105) w.heap.size S ?_ ?_ ?_ ?_ ?_); rfl; rfl; rfl; rfl; intro w9 on9 S9))
    have R9 := R1.six S on9 hBR
    have O9 := O.new on9 (Nat.le_refl _)
    refine bodyPost_ret (results_six_tmp (p := 4) (q := 5) Tryz.results41 _ (.bool true) rfl rfl S9) rfl (.inr ⟨8, false, 0, t, ⟨#[]⟩, [], none, 0, r', ?_, (by omega), ⟨by omega, by decide, by decide, by decide, by decide⟩, rfl, heldNil _ _ _ _ _, R9, O9⟩)
    rw [HV.out]
    show (match rdT r with | none => none | some (t, r') => some (Val.mk 8 false 0 t E0 [], r')) = _
    rw [ht]
    rfl


set_option maxRecDepth 20000 in
set_option maxHeartbeats 6400000 in
theorem rdBlank (R d f : Nat) (l r : List UInt8) (c : UInt8) (w : World) (hlr : l = c :: r) (hc : c.toNat = 9) (h : Rd w R l) (hl : l.length ≤ 1000000000) :
    Calls Tryz.prog 41 #[.pointer (some ⟨R, 0, none⟩), .int .i64 d] w (RdPost f R l w) := by
  have hv : rdV f l = rdK (if f = 0 then none else some (rdV (f - 1))) 9 r := by rw [hlr, rdV_cons, hc]
  have hrl : r.length ≤ l.length := by rw [hlr]; simp
  obtain ⟨W0, hW0⟩ : ∃ W0, W0 = w.alloc (.cells #[.int .i64 0, .bool false, .int .i64 0, .string ⟨#[]⟩, .string ⟨#[]⟩, .slice none 0 0] 31) := ⟨_, rfl⟩
  have S : Six W0 w.heap.size 0 false 0 ⟨#[]⟩ ⟨#[]⟩ none 0 0 := by rw [hW0]; exact six_new _ rfl
  have b0 : Below w.heap.size w W0 := by rw [hW0]; exact below1 _ _
  have hBR : w.heap.size ≠ R := by have := h.lt; omega
  have hi := kindInt R l r c 9 W0 hlr (by rw [hc]; rfl) (h.below b0) hl
  have O : Only R w W0 := Only.of_below b0
  have hl2 : r.length ≤ 1000000000 := by omega
  have H0 := Lib.hid hW0
  have HV := Lib.hid hv
  clear hW0 hv h b0 hlr hc
  go_enter Tryz.func41, Tryz.ntmps41
  go_upto_region 15 with (first
    | (go_at_call 52; (try rw [← H0.out]); (with_reducible refine hi.mono ?_); rintro e w1 ⟨rfl, R1, O1⟩; replace S := S.only O1 hBR; have c0 := S.c0; have f0 := S.free 0; replace R1 := R1.six S ((Only.refl _ w1).setCell 0 none (.int .i64 9)) hBR; replace O := (O.trans O1).new ((Only.refl w.heap.size w1).setCell 0 none (.int .i64 9)) (Nat.le_refl _); replace S := S.set0 9; clear O1 hi)
    | ((with_reducible refine wpList_load6 (.tmp 4) w.heap.size S ?_ ?_ ?_ ?_); rfl; rfl; rfl)
    | (go_at_call 47; (with_reducible refine (kindOfAt 9 _ _ _ _ _ 100 rfl _).mono ?_); rintro e w2 ⟨rfl, hb2⟩; replace S := S.below hb2; replace R1 := R1.below hb2; replace O := O.trans (Only.of_below hb2); clear hb2 c0 f0)
    | (simp only [ta100_113, ta100_91, ta100_93, ta100_94, ta100_95, ta100_97, ta100_98, ta100_99, ta100_100, ta100_102, ta100_103, Result.andThen_ok]))
  cases ht : rdT r with
  | none =>
    have hm : ∀ W, Rd W R r → Calls Tryz.prog 53 #[.pointer (some ⟨R, 0, none⟩)] W fun e w' => (∃ t : ByteArray, e = .returned (.tuple #[.string t, .bool false])) ∧ Only R W w' := fun W hR => (textAtR R r W hR hl2).mono (by
      rintro e w' (⟨_, he, h3⟩ | ⟨t', r', h, _⟩)
      · exact ⟨he, h3⟩
      · rw [ht] at h; cases h)
    go_upto_region 22 with (first
      | (go_at_call 53; (with_reducible refine (hm _ R1).mono ?_); rintro e w3 ⟨⟨t, rfl⟩, O3⟩; replace S := S.only O3 hBR; have c3 := S.c3; have f3 := S.free 3; replace O := (O.trans O3).new ((Only.refl w.heap.size w3).setCell 3 none (.string t)) (Nat.le_refl _); replace S := S.set3 t; clear O3))
    clear c3 f3
    go_wp2_with (first
      | ((with_reducible refine wpList_load6 (.tmp 4) w.heap.size S ?_ ?_ ?_ ?_); rfl; rfl; rfl)
      | ((with_reducible refine wpList_store6 (k' := 9) (b' := false) (n' := 0) (t' := t) (x' := ⟨#[]⟩) (p' := none) (len' := 0) (cap' := 0) (.tmp 4) (.tmp 105) w.heap.size S ?_ ?_ ?_ ?_ ?_); rfl; rfl; rfl; rfl; intro w9 on9 S9))
    refine bodyPost_ret (results_six_tmp (p := 4) (q := 5) Tryz.results41 _ (.bool false) rfl rfl S9) rfl (.inl ⟨?_, ⟨_, _, _, _, _, _, _, _, rfl⟩, O.new on9 (Nat.le_refl _)⟩)
    rw [HV.out]
    show (match rdT r with | none => none | some (t, r') => some (Val.mk 9 false 0 t E0 [], r')) = _
    rw [ht]
  | some pp =>
    obtain ⟨t, r'⟩ := pp
    have hm : ∀ W, Rd W R r → Calls Tryz.prog 53 #[.pointer (some ⟨R, 0, none⟩)] W fun e w' => e = .returned (.tuple #[.string t, .bool true]) ∧ t.size ≤ 1048576 ∧ r'.length ≤ r.length ∧ Rd w' R r' ∧ Only R W w' := fun W hR => (textAtR R r W hR hl2).mono (by
      rintro e w' (⟨h, _⟩ | ⟨t', r', h, h1, h2, he, h3⟩)
      · rw [ht] at h; cases h
      · rw [ht] at h
        simp only [Option.some.injEq, Prod.mk.injEq] at h
        obtain ⟨rfl, rfl⟩ := h
        exact ⟨he, h1, h2, h3⟩)
    go_upto_region 22 with (first
      | (go_at_call 53; (with_reducible refine (hm _ R1).mono ?_); rintro e w3 ⟨rfl, h1, h2, R3, O3⟩; replace S := S.only O3 hBR; have c3 := S.c3; have f3 := S.free 3; replace R1 := R3.six S ((Only.refl _ w3).setCell 3 none (.string t)) hBR; replace O := (O.trans O3).new ((Only.refl w.heap.size w3).setCell 3 none (.string t)) (Nat.le_refl _); replace S := S.set3 t; clear O3 R3))
    clear c3 f3
    go_wp2_with (first
      | ((with_reducible refine wpList_load6 (.tmp 4) w.heap.size S ?_ ?_ ?_ ?_); rfl; rfl; rfl)
      | ((with_reducible refine wpList_store6 (k' := 9) (b' := false) (n' := 0) (t' := t) (x' := ⟨#[]⟩) (p' := none) (len' := 0) (cap' := 0) (.tmp 4) (.tmp 105) w.heap.size S ?_ ?_ ?_ ?_ ?_); rfl; rfl; rfl; rfl; intro w9 on9 S9))
    have R9 := R1.six S on9 hBR
    have O9 := O.new on9 (Nat.le_refl _)
    refine bodyPost_ret (results_six_tmp (p := 4) (q := 5) Tryz.results41 _ (.bool true) rfl rfl S9) rfl (.inr ⟨9, false, 0, t, ⟨#[]⟩, [], none, 0, r', ?_, (by omega), ⟨by omega, by decide, by decide, by decide, by decide⟩, rfl, heldNil _ _ _ _ _, R9, O9⟩)
    rw [HV.out]
    show (match rdT r with | none => none | some (t, r') => some (Val.mk 9 false 0 t E0 [], r')) = _
    rw [ht]
    rfl


set_option maxRecDepth 20000 in
set_option maxHeartbeats 6400000 in
theorem rdLit (R d f : Nat) (l r : List UInt8) (c : UInt8) (w : World) (hlr : l = c :: r) (hc : c.toNat = 10) (h : Rd w R l) (hl : l.length ≤ 1000000000) :
    Calls Tryz.prog 41 #[.pointer (some ⟨R, 0, none⟩), .int .i64 d] w (RdPost f R l w) := by
  have hv : rdV f l = rdK (if f = 0 then none else some (rdV (f - 1))) 10 r := by rw [hlr, rdV_cons, hc]
  have hrl : r.length ≤ l.length := by rw [hlr]; simp
  obtain ⟨W0, hW0⟩ : ∃ W0, W0 = w.alloc (.cells #[.int .i64 0, .bool false, .int .i64 0, .string ⟨#[]⟩, .string ⟨#[]⟩, .slice none 0 0] 31) := ⟨_, rfl⟩
  have S : Six W0 w.heap.size 0 false 0 ⟨#[]⟩ ⟨#[]⟩ none 0 0 := by rw [hW0]; exact six_new _ rfl
  have b0 : Below w.heap.size w W0 := by rw [hW0]; exact below1 _ _
  have hBR : w.heap.size ≠ R := by have := h.lt; omega
  have hi := kindInt R l r c 10 W0 hlr (by rw [hc]; rfl) (h.below b0) hl
  have O : Only R w W0 := Only.of_below b0
  have hl2 : r.length ≤ 1000000000 := by omega
  have H0 := Lib.hid hW0
  have HV := Lib.hid hv
  clear hW0 hv h b0 hlr hc
  go_enter Tryz.func41, Tryz.ntmps41
  go_upto_region 17 with (first
    | (go_at_call 52; (try rw [← H0.out]); (with_reducible refine hi.mono ?_); rintro e w1 ⟨rfl, R1, O1⟩; replace S := S.only O1 hBR; have c0 := S.c0; have f0 := S.free 0; replace R1 := R1.six S ((Only.refl _ w1).setCell 0 none (.int .i64 10)) hBR; replace O := (O.trans O1).new ((Only.refl w.heap.size w1).setCell 0 none (.int .i64 10)) (Nat.le_refl _); replace S := S.set0 10; clear O1 hi)
    | ((with_reducible refine wpList_load6 (.tmp 4) w.heap.size S ?_ ?_ ?_ ?_); rfl; rfl; rfl)
    | (go_at_call 47; (with_reducible refine (kindOfAt 10 _ _ _ _ _ 102 rfl _).mono ?_); rintro e w2 ⟨rfl, hb2⟩; replace S := S.below hb2; replace R1 := R1.below hb2; replace O := O.trans (Only.of_below hb2); clear hb2 c0 f0)
    | (simp only [ta102_113, ta102_91, ta102_93, ta102_94, ta102_95, ta102_97, ta102_98, ta102_99, ta102_100, ta102_102, ta102_103, Result.andThen_ok]))
  cases ht : rdT r with
  | none =>
    have hm : ∀ W, Rd W R r → Calls Tryz.prog 53 #[.pointer (some ⟨R, 0, none⟩)] W fun e w' => (∃ t : ByteArray, e = .returned (.tuple #[.string t, .bool false])) ∧ Only R W w' := fun W hR => (textAtR R r W hR hl2).mono (by
      rintro e w' (⟨_, he, h3⟩ | ⟨t', r', h, _⟩)
      · exact ⟨he, h3⟩
      · rw [ht] at h; cases h)
    go_upto_region 22 with (first
      | (go_at_call 53; (with_reducible refine (hm _ R1).mono ?_); rintro e w3 ⟨⟨t, rfl⟩, O3⟩; replace S := S.only O3 hBR; have c3 := S.c3; have f3 := S.free 3; replace O := (O.trans O3).new ((Only.refl w.heap.size w3).setCell 3 none (.string t)) (Nat.le_refl _); replace S := S.set3 t; clear O3))
    clear c3 f3
    go_wp2_with (first
      | ((with_reducible refine wpList_load6 (.tmp 4) w.heap.size S ?_ ?_ ?_ ?_); rfl; rfl; rfl)
      | ((with_reducible refine wpList_store6 (k' := 10) (b' := false) (n' := 0) (t' := t) (x' := ⟨#[]⟩) (p' := none) (len' := 0) (cap' := 0) (.tmp 4) (.tmp 105) w.heap.size S ?_ ?_ ?_ ?_ ?_); rfl; rfl; rfl; rfl; intro w9 on9 S9))
    refine bodyPost_ret (results_six_tmp (p := 4) (q := 5) Tryz.results41 _ (.bool false) rfl rfl S9) rfl (.inl ⟨?_, ⟨_, _, _, _, _, _, _, _, rfl⟩, O.new on9 (Nat.le_refl _)⟩)
    rw [HV.out]
    show (match rdT r with | none => none | some (t, r') => (match rdT r' with | none => none | some (x, r'') => some (Val.mk 10 false 0 t x [], r''))) = _
    rw [ht]
  | some pp =>
    obtain ⟨t, r'⟩ := pp
    have hm : ∀ W, Rd W R r → Calls Tryz.prog 53 #[.pointer (some ⟨R, 0, none⟩)] W fun e w' => e = .returned (.tuple #[.string t, .bool true]) ∧ t.size ≤ 1048576 ∧ r'.length ≤ r.length ∧ Rd w' R r' ∧ Only R W w' := fun W hR => (textAtR R r W hR hl2).mono (by
      rintro e w' (⟨h, _⟩ | ⟨t', r', h, h1, h2, he, h3⟩)
      · rw [ht] at h; cases h
      · rw [ht] at h
        simp only [Option.some.injEq, Prod.mk.injEq] at h
        obtain ⟨rfl, rfl⟩ := h
        exact ⟨he, h1, h2, h3⟩)
    go_upto_region 19 with (first
      | (go_at_call 53; (with_reducible refine (hm _ R1).mono ?_); rintro e w3 ⟨rfl, h1, h2, R3, O3⟩; replace S := S.only O3 hBR; have c3 := S.c3; have f3 := S.free 3; replace R1 := R3.six S ((Only.refl _ w3).setCell 3 none (.string t)) hBR; replace O := (O.trans O3).new ((Only.refl w.heap.size w3).setCell 3 none (.string t)) (Nat.le_refl _); replace S := S.set3 t; clear O3 R3))
    clear c3 f3
    have hl3 : r'.length ≤ 1000000000 := by omega
    cases hx : rdT r' with
    | none =>
      have hm2 : ∀ W, Rd W R r' → Calls Tryz.prog 53 #[.pointer (some ⟨R, 0, none⟩)] W fun e w' => (∃ t : ByteArray, e = .returned (.tuple #[.string t, .bool false])) ∧ Only R W w' := fun W hR => (textAtR R r' W hR hl3).mono (by
      rintro e w' (⟨_, he, h3⟩ | ⟨t', r', h, _⟩)
      · exact ⟨he, h3⟩
      · rw [hx] at h; cases h)
      go_upto_region 22 with (first
        | (go_at_call 53; (with_reducible refine (hm2 _ R1).mono ?_); rintro e w4 ⟨⟨x, rfl⟩, O3⟩; replace S := S.only O3 hBR; have c4 := S.c4; have f4 := S.free 4; replace O := (O.trans O3).new ((Only.refl w.heap.size w4).setCell 4 none (.string x)) (Nat.le_refl _); replace S := S.set4 x; clear O3))
      clear c4 f4
      go_wp2_with (first
        | ((with_reducible refine wpList_load6 (.tmp 4) w.heap.size S ?_ ?_ ?_ ?_); rfl; rfl; rfl)
        | ((with_reducible refine wpList_store6 (k' := 10) (b' := false) (n' := 0) (t' := t) (x' := x) (p' := none) (len' := 0) (cap' := 0) (.tmp 4) (.tmp 105) w.heap.size S ?_ ?_ ?_ ?_ ?_); rfl; rfl; rfl; rfl; intro w9 on9 S9))
      refine bodyPost_ret (results_six_tmp (p := 4) (q := 5) Tryz.results41 _ (.bool false) rfl rfl S9) rfl (.inl ⟨?_, ⟨_, _, _, _, _, _, _, _, rfl⟩, O.new on9 (Nat.le_refl _)⟩)
      rw [HV.out]
      show (match rdT r with | none => none | some (t, r') => (match rdT r' with | none => none | some (x, r'') => some (Val.mk 10 false 0 t x [], r''))) = _
      rw [ht]
      simp only
      rw [hx]
    | some pp2 =>
      obtain ⟨x, r''⟩ := pp2
      have hm2 : ∀ W, Rd W R r' → Calls Tryz.prog 53 #[.pointer (some ⟨R, 0, none⟩)] W fun e w' => e = .returned (.tuple #[.string x, .bool true]) ∧ x.size ≤ 1048576 ∧ r''.length ≤ r'.length ∧ Rd w' R r'' ∧ Only R W w' := fun W hR => (textAtR R r' W hR hl3).mono (by
      rintro e w' (⟨h, _⟩ | ⟨t', r', h, h1, h2, he, h3⟩)
      · rw [hx] at h; cases h
      · rw [hx] at h
        simp only [Option.some.injEq, Prod.mk.injEq] at h
        obtain ⟨rfl, rfl⟩ := h
        exact ⟨he, h1, h2, h3⟩)
      go_upto_region 22 with (first
        | (go_at_call 53; (with_reducible refine (hm2 _ R1).mono ?_); rintro e w4 ⟨rfl, h3, h4, R3, O3⟩; replace S := S.only O3 hBR; have c4 := S.c4; have f4 := S.free 4; replace R1 := R3.six S ((Only.refl _ w4).setCell 4 none (.string x)) hBR; replace O := (O.trans O3).new ((Only.refl w.heap.size w4).setCell 4 none (.string x)) (Nat.le_refl _); replace S := S.set4 x; clear O3 R3))
      clear c4 f4
      go_wp2_with (first
        | ((with_reducible refine wpList_load6 (.tmp 4) w.heap.size S ?_ ?_ ?_ ?_); rfl; rfl; rfl)
        | ((with_reducible refine wpList_store6 (k' := 10) (b' := false) (n' := 0) (t' := t) (x' := x) (p' := none) (len' := 0) (cap' := 0) (.tmp 4) (.tmp 105) w.heap.size S ?_ ?_ ?_ ?_ ?_); rfl; rfl; rfl; rfl; intro w9 on9 S9))
      have R9 := R1.six S on9 hBR
      have O9 := O.new on9 (Nat.le_refl _)
      refine bodyPost_ret (results_six_tmp (p := 4) (q := 5) Tryz.results41 _ (.bool true) rfl rfl S9) rfl (.inr ⟨10, false, 0, t, x, [], none, 0, r'', ?_, (by omega), ⟨by omega, by omega, by decide, by decide, by decide⟩, rfl, heldNil _ _ _ _ _, R9, O9⟩)
      rw [HV.out]
      show (match rdT r with | none => none | some (t, r') => (match rdT r' with | none => none | some (x, r'') => some (Val.mk 10 false 0 t x [], r''))) = _
      rw [ht]
      simp only
      rw [hx]


set_option maxRecDepth 20000 in
set_option maxHeartbeats 6400000 in
theorem rdList (R d f : Nat) (l r : List UInt8) (c : UInt8) (w : World) (hlr : l = c :: r) (hc : c.toNat = 5) (h : Rd w R l) (hl : l.length ≤ 1000000000) (hd : d ≤ 1000) (hls : ∀ W, Rd W R r → Calls Tryz.prog 54 #[.pointer (some ⟨R, 0, none⟩), .int .i64 ((d : Int) + 1)] W (LstPost f R r W)) :
    Calls Tryz.prog 41 #[.pointer (some ⟨R, 0, none⟩), .int .i64 d] w (RdPost f R l w) := by
  have hv : rdV f l = rdK (if f = 0 then none else some (rdV (f - 1))) 5 r := by rw [hlr, rdV_cons, hc]
  have hrl : r.length ≤ l.length := by rw [hlr]; simp
  obtain ⟨W0, hW0⟩ : ∃ W0, W0 = w.alloc (.cells #[.int .i64 0, .bool false, .int .i64 0, .string ⟨#[]⟩, .string ⟨#[]⟩, .slice none 0 0] 31) := ⟨_, rfl⟩
  have S : Six W0 w.heap.size 0 false 0 ⟨#[]⟩ ⟨#[]⟩ none 0 0 := by rw [hW0]; exact six_new _ rfl
  have b0 : Below w.heap.size w W0 := by rw [hW0]; exact below1 _ _
  have hBR : w.heap.size ≠ R := by have := h.lt; omega
  have hi := kindInt R l r c 5 W0 hlr (by rw [hc]; rfl) (h.below b0) hl
  have O : Only R w W0 := Only.of_below b0
  have hl2 : r.length ≤ 1000000000 := by omega
  have H0 := Lib.hid hW0
  have HLS := Lib.hid hls
  have HV := Lib.hid hv
  clear hW0 hv h b0 hlr hc hls
  go_enter Tryz.func41, Tryz.ntmps41
  go_upto_region 21 with (first
    | (go_at_call 52; (try rw [← H0.out]); (with_reducible refine hi.mono ?_); rintro e w1 ⟨rfl, R1, O1⟩; replace S := S.only O1 hBR; have c0 := S.c0; have f0 := S.free 0; replace R1 := R1.six S ((Only.refl _ w1).setCell 0 none (.int .i64 5)) hBR; replace O := (O.trans O1).new ((Only.refl w.heap.size w1).setCell 0 none (.int .i64 5)) (Nat.le_refl _); replace S := S.set0 5; clear O1 hi)
    | ((with_reducible refine wpList_load6 (.tmp 4) w.heap.size S ?_ ?_ ?_ ?_); rfl; rfl; rfl)
    | (go_at_call 47; (with_reducible refine (kindOfAt 5 _ _ _ _ _ 103 rfl _).mono ?_); rintro e w2 ⟨rfl, hb2⟩; replace S := S.below hb2; replace R1 := R1.below hb2; replace O := O.trans (Only.of_below hb2); clear hb2 c0 f0)
    | (simp only [ta103_113, ta103_91, ta103_93, ta103_94, ta103_95, ta103_97, ta103_98, ta103_99, ta103_100, ta103_102, ta103_103, Result.andThen_ok]))
  have hd2 : (d : Int) ≤ 1000 := by omega
  cases hq : lstP f r with
  | none =>
    have hm : ∀ W, Rd W R r → Calls Tryz.prog 54 #[.pointer (some ⟨R, 0, none⟩), .int .i64 ((d : Int) + 1)] W fun e w' => (∃ (p : Option Addr) (len cap : Nat), e = .returned (.tuple #[.slice p len cap, .bool false])) ∧ Only R W w' := fun W hR => (HLS.out W hR).mono (by
      rintro e w' (⟨_, he, h3⟩ | ⟨_, _, _, _, h, _⟩)
      · exact ⟨he, h3⟩
      · rw [hq] at h; cases h)
    go_upto_region 22 with (first
      | (go_at_call 54; (with_reducible refine (hm _ R1).mono ?_); rintro e w3 ⟨⟨p3, len3, cap3, rfl⟩, O3⟩; replace S := S.only O3 hBR; have c5 := S.c5; have f5 := S.free 5; replace O := (O.trans O3).new ((Only.refl w.heap.size w3).setCell 5 none (.slice p3 len3 cap3)) (Nat.le_refl _); replace S := S.set5 p3 len3 cap3; clear O3))
    clear c5 f5
    go_wp2_with (first
      | ((with_reducible refine wpList_load6 (.tmp 4) w.heap.size S ?_ ?_ ?_ ?_); rfl; rfl; rfl)
      | ((with_reducible refine wpList_store6 (k' := 5) (b' := false) (n' := 0) (t' := ⟨#[]⟩) (x' := ⟨#[]⟩) (p' := p3) (len' := len3) (cap' := cap3) (.tmp 4) (.tmp 105) w.heap.size S ?_ ?_ ?_ ?_ ?_); rfl; rfl; rfl; rfl; intro w9 on9 S9))
    refine bodyPost_ret (results_six_tmp (p := 4) (q := 5) Tryz.results41 _ (.bool false) rfl rfl S9) rfl (.inl ⟨?_, ⟨_, _, _, _, _, _, _, _, rfl⟩, O.new on9 (Nat.le_refl _)⟩)
    rw [HV.out]
    rw [rdK_list, hq]
  | some pp =>
    obtain ⟨q, r'⟩ := pp
    have hm : ∀ W, Rd W R r → Calls Tryz.prog 54 #[.pointer (some ⟨R, 0, none⟩), .int .i64 ((d : Int) + 1)] W fun e w' => ∃ (p : Option Addr) (cap : Nat), e = .returned (.tuple #[.slice p q.length cap, .bool true]) ∧ r'.length ≤ r.length ∧ q.length ≤ 4096 ∧ HeldT w' W.heap.size w'.heap.size (.slice p q.length cap) q ∧ Rd w' R r' ∧ Only R W w' := fun W hR => (HLS.out W hR).mono (by
      rintro e w' (⟨h, _⟩ | ⟨q', p, cap, r2, h, h1, h2, he, h3⟩)
      · rw [hq] at h; cases h
      · rw [hq] at h
        simp only [Option.some.injEq, Prod.mk.injEq] at h
        obtain ⟨rfl, rfl⟩ := h
        exact ⟨p, cap, he, h1, h2, h3⟩)
    have hz2 := S.lt
    go_upto_region 22 with (first
      | (go_at_call 54; (with_reducible refine (hm _ R1).mono ?_); rintro e w3 ⟨p3, cap3, rfl, h1, h2, hh3, R3, O3⟩; have HH3 := Lib.hid hh3; replace S := S.only O3 hBR; have c5 := S.c5; have f5 := S.free 5; replace R1 := R3.six S ((Only.refl _ w3).setCell 5 none (.slice p3 q.length cap3)) hBR; have on3 := (Only.refl w.heap.size w3).setCell 5 none (.slice p3 q.length cap3); replace O := (O.trans O3).new on3 (Nat.le_refl _); replace S := S.set5 p3 q.length cap3; clear O3 R3 hh3))
    clear c5 f5
    go_wp2_with (first
      | ((with_reducible refine wpList_load6 (.tmp 4) w.heap.size S ?_ ?_ ?_ ?_); rfl; rfl; rfl)
      | ((with_reducible refine wpList_store6 (k' := 5) (b' := false) (n' := 0) (t' := ⟨#[]⟩) (x' := ⟨#[]⟩) (p' := p3) (len' := q.length) (cap' := cap3) (.tmp 4) (.tmp 105) w.heap.size S ?_ ?_ ?_ ?_ ?_); rfl; rfl; rfl; rfl; intro w9 on9 S9))
    have R9 := R1.six S on9 hBR
    have O9 := O.new on9 (Nat.le_refl _)
    have hh9 : HeldT w9 w.heap.size w9.heap.size (.slice p3 q.length cap3) q := HeldT.wide (by omega) (Nat.le_trans on3.size on9.size) q (HeldT.stays (fun g g1 g2 => (on9.block g (Nat.lt_of_lt_of_le g2 on3.size) (by omega)).trans (on3.block g g2 (by omega))) q HH3.out)
    refine bodyPost_ret (results_six_tmp (p := 4) (q := 5) Tryz.results41 _ (.bool true) rfl rfl S9) rfl (.inr ⟨5, false, 0, ⟨#[]⟩, ⟨#[]⟩, q, p3, cap3, r', ?_, by omega, ⟨by decide, by decide, by omega, by decide, by decide⟩, rfl, hh9, R9, O9⟩)
    rw [HV.out, rdK_list, hq]
    rfl


end Go.Proofs.YtffbcccbhofbpaaGreatDoor
