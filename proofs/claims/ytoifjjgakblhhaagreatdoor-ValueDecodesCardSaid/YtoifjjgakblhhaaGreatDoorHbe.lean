/- Texts of one kind, one behind the other: each says ahead of itself what it shows. -/
import Derived.Test.YtoifjjgakblhhaaGreatDoorHbd
/- The document's own reader: bools, texts, literals. -/
namespace Go.Proofs.YtoifjjgakblhhaaGreatDoor
open Go.RowKit

theorem txtBad (R : Nat) (l : List UInt8) (bad : Bool) (W : World) (hb : bad = true ∨ rzT l = none) (h : Rz W R l bad) (hl : l.length ≤ 1000000000) :
    Calls Tryz.prog 115 #[.pointer (some ⟨R, 0, none⟩)] W fun e w' => (∃ t : ByteArray, e = .returned (.string t)) ∧ (∃ l', l'.length ≤ l.length ∧ Rz w' R l' true) ∧ Only R W w' := by
  refine (textAtZ R l bad W h hl).mono ?_
  rintro e w' (⟨_, ⟨t, _, he⟩, h⟩ | ⟨t, r, h1, h2, _⟩)
  · exact ⟨⟨t, he⟩, h⟩
  · rcases hb with hb | hb
    · rw [h1] at hb; cases hb
    · rw [h2] at hb; cases hb
theorem txtGood (R : Nat) (l r : List UInt8) (t : ByteArray) (W : World) (ht : rzT l = some (t, r)) (h : Rz W R l false) (hl : l.length ≤ 1000000000) :
    Calls Tryz.prog 115 #[.pointer (some ⟨R, 0, none⟩)] W fun e w' => e = .returned (.string t) ∧ t.size ≤ l.length ∧ r.length ≤ l.length ∧ Rz w' R r false ∧ Only R W w' := by
  refine (textAtZ R l false W h hl).mono ?_
  rintro e w' (⟨h1, _⟩ | ⟨t', r', _, h2, h3, h4, he, h⟩)
  · rcases h1 with h1 | h1
    · cases h1
    · rw [ht] at h1; cases h1
  · rw [ht] at h2
    simp only [Option.some.injEq, Prod.mk.injEq] at h2
    obtain ⟨rfl, rfl⟩ := h2
    exact ⟨he, h3, h4, h⟩

set_option maxRecDepth 20000 in
set_option maxHeartbeats 6400000 in
theorem rzTruth (R d f : Nat) (l r : List UInt8) (c : UInt8) (w : World) (hlr : l = c :: r) (hc : c.toNat = 1) (h : Rz w R l false) (hl : l.length ≤ 1000000000) :
    Calls Tryz.prog 71 #[.pointer (some ⟨R, 0, none⟩), .int .i64 d] w (RzPost f R l false w) := by
  have hv : rzV f l = rzK (if f = 0 then none else some (rzV (f - 1))) 1 r := by rw [hlr, rzV_cons, hc]
  have hrl : r.length ≤ l.length := by rw [hlr]; simp
  have hl2 : r.length ≤ 1000000000 := by omega
  obtain ⟨W0, hW0⟩ : ∃ W0, W0 = w.alloc (.cells #[.int .i64 0, .bool false, .int .i64 0, .string ⟨#[]⟩, .string ⟨#[]⟩, .slice none 0 0] 28) := ⟨_, rfl⟩
  have S : Six W0 w.heap.size 0 false 0 ⟨#[]⟩ ⟨#[]⟩ none 0 0 := by rw [hW0]; exact six_new _ rfl
  have b0 : Below w.heap.size w W0 := by rw [hW0]; exact below1 _ _
  have hBR : w.heap.size ≠ R := by have := h.lt; omega
  have hRw : R < w.heap.size := h.lt
  have z0 : W0.heap.size = w.heap.size + 1 := by rw [hW0]; simp
  have hi := numOne R l r c 1 W0 hlr (by rw [hc]; rfl) (h.below b0) hl
  have O : Only R w W0 := Only.of_below b0
  have H0 := Lib.hid hW0
  have HV := Lib.hid hv
  clear hW0 hv h b0 hlr hc
  go_enter Tryz.func71, Tryz.ntmps71
  go_upto_region 2 with (go_at_call 114; (try rw [← H0.out]); (with_reducible refine hi.mono ?_); rintro e w1 ⟨rfl, R1, O1⟩)
  have hsz := O1.size
  have S2 : Six (w1.alloc (.cells #[.int .i64 1, .bool false, .int .i64 0, .string ⟨#[]⟩, .string ⟨#[]⟩, .slice none 0 0] 28)) w1.heap.size 1 false 0 ⟨#[]⟩ ⟨#[]⟩ none 0 0 := six_new _ rfl
  replace S := (S.only O1 hBR).alloc (.cells #[.int .i64 1, .bool false, .int .i64 0, .string ⟨#[]⟩, .string ⟨#[]⟩, .slice none 0 0] 28)
  replace R1 := R1.below (below1 w1 (.cells #[.int .i64 1, .bool false, .int .i64 0, .string ⟨#[]⟩, .string ⟨#[]⟩, .slice none 0 0] 28))
  replace O := (O.trans O1).alloc (.cells #[.int .i64 1, .bool false, .int .i64 0, .string ⟨#[]⟩, .string ⟨#[]⟩, .slice none 0 0] 28)
  obtain ⟨B, hB⟩ : ∃ B, B = w1.heap.size := ⟨_, rfl⟩
  have hBw : w.heap.size < B := by omega
  have hBR2 : B ≠ R := by omega
  have hBne : w.heap.size ≠ B := by omega
  have hRB : R < B := by omega
  rw [← hB] at S2 ⊢
  generalize w1.alloc (.cells #[.int .i64 1, .bool false, .int .i64 0, .string ⟨#[]⟩, .string ⟨#[]⟩, .slice none 0 0] 28) = W2 at S S2 R1 O ⊢
  have f0 := S2.c0
  clear hi O1 hB hsz
  cases r with
  | nil =>
    have hm : ∀ W, Rz W R [] false → Calls Tryz.prog 114 #[.pointer (some ⟨R, 0, none⟩), .int .i64 1] W fun e w' => e = .returned (.int .i64 0) ∧ Rz w' R [] true ∧ Only R W w' := fun W hR => numBad R W 1 (by omega) [] false (.inr (by decide)) hR (by decide)
    go_upto_region 28 with (first
      | (go_at_call 114; (with_reducible refine (hm _ R1).mono ?_); rintro e w3 ⟨rfl, R3, O3⟩; replace S := S.only O3 hBR; replace S2 := S2.only O3 hBR2; have rc := R3.c1; have rf := R3.f1; have on4 := (Only.refl R w3).setCell 1 none (.bool true); replace S := S.only on4 hBR; replace S2 := S2.only on4 hBR2; replace R3 := R3.set1 true; have c1 := S2.c1; have f1 := S2.free 1; have on5 := (Only.refl B (w3.setCell ⟨R, 1, none⟩ (.bool true))).setCell 1 none (.bool false); replace R3 := R3.six S2 on5 hRB; replace S := S.only on5 hBne; replace O := ((O.trans O3).trans on4).new on5 (by omega); replace S2 := S2.set1 false; clear O3 R1))
    have R1 := R3
    clear rc rf c1 f1 f0 R3
    go_wp2_with (first
      | ((with_reducible refine wpList_load6 (.tmp 5) B S2 ?_ ?_ ?_ ?_); rfl; rfl; rfl)
      | ((with_reducible refine wpList_store6 (k' := 1) (b' := false) (n' := 0) (t' := ⟨#[]⟩) (x' := ⟨#[]⟩) (p' := none) (len' := 0) (cap' := 0) (.tmp 4) (.tmp 100) w.heap.size S ?_ ?_ ?_ ?_ ?_); rfl; rfl; rfl; rfl; intro w9 on9 S9))
    have R9 := R1.six S on9 hRw
    have O9 := O.new on9 (Nat.le_refl _)
    refine bodyPost_ret (results_six1 (p := 4) Tryz.results71 _ rfl S9) rfl (.inl ⟨.inr ?_, ⟨_, _, _, _, _, _, _, _, rfl⟩, ⟨_, by simp, R9⟩, O9⟩)
    rw [HV.out]
    rfl
  | cons b r' =>
    have hrl2 : r'.length ≤ l.length := Nat.le_trans (by simp) hrl
    by_cases hb0 : b.toNat = 0
    · have hbx : (b.toNat : Int) = 0 := by omega
      have hm : ∀ W, Rz W R (b :: r') false → Calls Tryz.prog 114 #[.pointer (some ⟨R, 0, none⟩), .int .i64 1] W fun e w' => e = .returned (.int .i64 0) ∧ Rz w' R r' false ∧ Only R W w' := fun W hR => numOne R (b :: r') r' b 0 W rfl hbx hR hl2
      go_upto_region 28 with (first
        | (go_at_call 114; (with_reducible refine (hm _ R1).mono ?_); rintro e w3 ⟨rfl, R3, O3⟩; replace S := S.only O3 hBR; replace S2 := S2.only O3 hBR2; have rc := R3.c1; have rf := R3.f1; have on4 := (Only.refl R w3).setCell 1 none (.bool false); replace S := S.only on4 hBR; replace S2 := S2.only on4 hBR2; replace R3 := R3.set1 false; have c1 := S2.c1; have f1 := S2.free 1; have on5 := (Only.refl B (w3.setCell ⟨R, 1, none⟩ (.bool false))).setCell 1 none (.bool false); replace R3 := R3.six S2 on5 hRB; replace S := S.only on5 hBne; replace O := ((O.trans O3).trans on4).new on5 (by omega); replace S2 := S2.set1 false; clear O3 R1))
      have R1 := R3
      clear rc rf c1 f1 f0 R3
      go_wp2_with (first
        | ((with_reducible refine wpList_load6 (.tmp 5) B S2 ?_ ?_ ?_ ?_); rfl; rfl; rfl)
        | ((with_reducible refine wpList_store6 (k' := 1) (b' := false) (n' := 0) (t' := ⟨#[]⟩) (x' := ⟨#[]⟩) (p' := none) (len' := 0) (cap' := 0) (.tmp 4) (.tmp 100) w.heap.size S ?_ ?_ ?_ ?_ ?_); rfl; rfl; rfl; rfl; intro w9 on9 S9))
      have R9 := R1.six S on9 hRw
      have O9 := O.new on9 (Nat.le_refl _)
      refine bodyPost_ret (results_six1 (p := 4) Tryz.results71 _ rfl S9) rfl (.inr ⟨1, false, 0, ⟨#[]⟩, ⟨#[]⟩, [], none, 0, r', rfl, ?_, hrl2, ⟨by decide, by decide, by decide, by decide, by decide⟩, rfl, heldNilZ _ _ _ _, R9, O9⟩)
      rw [HV.out]
      show (if b.toNat ≤ 1 then some (Val.mk 1 (b.toNat == 1) 0 E0 E0 [], r') else none) = _
      rw [if_pos (by omega), hb0]
      rfl
    · by_cases hb1 : b.toNat = 1
      · have hbx : (b.toNat : Int) = 1 := by omega
        have hm : ∀ W, Rz W R (b :: r') false → Calls Tryz.prog 114 #[.pointer (some ⟨R, 0, none⟩), .int .i64 1] W fun e w' => e = .returned (.int .i64 1) ∧ Rz w' R r' false ∧ Only R W w' := fun W hR => numOne R (b :: r') r' b 1 W rfl hbx hR hl2
        go_upto_region 28 with (first
          | (go_at_call 114; (with_reducible refine (hm _ R1).mono ?_); rintro e w3 ⟨rfl, R3, O3⟩; replace S := S.only O3 hBR; replace S2 := S2.only O3 hBR2; have rc := R3.c1; have rf := R3.f1; have on4 := (Only.refl R w3).setCell 1 none (.bool false); replace S := S.only on4 hBR; replace S2 := S2.only on4 hBR2; replace R3 := R3.set1 false; have c1 := S2.c1; have f1 := S2.free 1; have on5 := (Only.refl B (w3.setCell ⟨R, 1, none⟩ (.bool false))).setCell 1 none (.bool true); replace R3 := R3.six S2 on5 hRB; replace S := S.only on5 hBne; replace O := ((O.trans O3).trans on4).new on5 (by omega); replace S2 := S2.set1 true; clear O3 R1))
        have R1 := R3
        clear rc rf c1 f1 f0 R3
        go_wp2_with (first
          | ((with_reducible refine wpList_load6 (.tmp 5) B S2 ?_ ?_ ?_ ?_); rfl; rfl; rfl)
          | ((with_reducible refine wpList_store6 (k' := 1) (b' := true) (n' := 0) (t' := ⟨#[]⟩) (x' := ⟨#[]⟩) (p' := none) (len' := 0) (cap' := 0) (.tmp 4) (.tmp 100) w.heap.size S ?_ ?_ ?_ ?_ ?_); rfl; rfl; rfl; rfl; intro w9 on9 S9))
        have R9 := R1.six S on9 hRw
        have O9 := O.new on9 (Nat.le_refl _)
        refine bodyPost_ret (results_six1 (p := 4) Tryz.results71 _ rfl S9) rfl (.inr ⟨1, true, 0, ⟨#[]⟩, ⟨#[]⟩, [], none, 0, r', rfl, ?_, hrl2, ⟨by decide, by decide, by decide, by decide, by decide⟩, rfl, heldNilZ _ _ _ _, R9, O9⟩)
        rw [HV.out]
        show (if b.toNat ≤ 1 then some (Val.mk 1 (b.toNat == 1) 0 E0 E0 [], r') else none) = _
        rw [if_pos (by omega), hb1]
        rfl
      · obtain ⟨x, hbx⟩ : ∃ x : Int, (b.toNat : Int) = x := ⟨_, rfl⟩
        have hx3 : x < 256 := by have := UInt8.toNat_lt b; omega
        have hx4 : ¬x = 1 := by omega
        have hx5 : 1 < x := by omega
        have hx6 : (x == 1) = false := by simpa using hx4
        have hx8 : decide (1 < x) = true := decide_eq_true hx5
        have hx9 : decide (x = 1) = false := decide_eq_false hx4
        have hm : ∀ W, Rz W R (b :: r') false → Calls Tryz.prog 114 #[.pointer (some ⟨R, 0, none⟩), .int .i64 1] W fun e w' => e = .returned (.int .i64 x) ∧ Rz w' R r' false ∧ Only R W w' := fun W hR => numOne R (b :: r') r' b x W rfl hbx hR hl2
        go_upto_region 28 with (first
          | (go_at_call 114; (with_reducible refine (hm _ R1).mono ?_); rintro e w3 ⟨rfl, R3, O3⟩; replace S := S.only O3 hBR; replace S2 := S2.only O3 hBR2; have rc := R3.c1; have rf := R3.f1; have on4 := (Only.refl R w3).setCell 1 none (.bool true); replace S := S.only on4 hBR; replace S2 := S2.only on4 hBR2; replace R3 := R3.set1 true; have c1 := S2.c1; have f1 := S2.free 1; have on5 := (Only.refl B (w3.setCell ⟨R, 1, none⟩ (.bool true))).setCell 1 none (.bool false); replace R3 := R3.six S2 on5 hRB; replace S := S.only on5 hBne; replace O := ((O.trans O3).trans on4).new on5 (by omega); replace S2 := S2.set1 false; clear O3 R1))
        have R1 := R3
        clear rc rf c1 f1 f0 R3
        go_wp2_with (first
          | ((with_reducible refine wpList_load6 (.tmp 5) B S2 ?_ ?_ ?_ ?_); rfl; rfl; rfl)
          | ((with_reducible refine wpList_store6 (k' := 1) (b' := false) (n' := 0) (t' := ⟨#[]⟩) (x' := ⟨#[]⟩) (p' := none) (len' := 0) (cap' := 0) (.tmp 4) (.tmp 100) w.heap.size S ?_ ?_ ?_ ?_ ?_); rfl; rfl; rfl; rfl; intro w9 on9 S9))
        have R9 := R1.six S on9 hRw
        have O9 := O.new on9 (Nat.le_refl _)
        refine bodyPost_ret (results_six1 (p := 4) Tryz.results71 _ rfl S9) rfl (.inl ⟨.inr ?_, ⟨_, _, _, _, _, _, _, _, rfl⟩, ⟨_, by omega, R9⟩, O9⟩)
        rw [HV.out]
        show (if b.toNat ≤ 1 then some (Val.mk 1 (b.toNat == 1) 0 E0 E0 [], r') else none) = _
        rw [if_neg (by omega)]

set_option maxRecDepth 20000 in
set_option maxHeartbeats 6400000 in
theorem rzExact (R d f : Nat) (l r : List UInt8) (c : UInt8) (w : World) (hlr : l = c :: r) (hc : c.toNat = 3) (h : Rz w R l false) (hl : l.length ≤ 1000000000) (hl3 : l.length ≤ 1048576) :
    Calls Tryz.prog 71 #[.pointer (some ⟨R, 0, none⟩), .int .i64 d] w (RzPost f R l false w) := by
  have hv : rzV f l = rzK (if f = 0 then none else some (rzV (f - 1))) 3 r := by rw [hlr, rzV_cons, hc]
  have hrl : r.length ≤ l.length := by rw [hlr]; simp
  have hl2 : r.length ≤ 1000000000 := by omega
  obtain ⟨W0, hW0⟩ : ∃ W0, W0 = w.alloc (.cells #[.int .i64 0, .bool false, .int .i64 0, .string ⟨#[]⟩, .string ⟨#[]⟩, .slice none 0 0] 28) := ⟨_, rfl⟩
  have S : Six W0 w.heap.size 0 false 0 ⟨#[]⟩ ⟨#[]⟩ none 0 0 := by rw [hW0]; exact six_new _ rfl
  have b0 : Below w.heap.size w W0 := by rw [hW0]; exact below1 _ _
  have hBR : w.heap.size ≠ R := by have := h.lt; omega
  have hRw : R < w.heap.size := h.lt
  have z0 : W0.heap.size = w.heap.size + 1 := by rw [hW0]; simp
  have hi := numOne R l r c 3 W0 hlr (by rw [hc]; rfl) (h.below b0) hl
  have O : Only R w W0 := Only.of_below b0
  have H0 := Lib.hid hW0
  have HV := Lib.hid hv
  clear hW0 hv h b0 hlr hc
  go_enter Tryz.func71, Tryz.ntmps71
  go_upto_region 2 with (go_at_call 114; (try rw [← H0.out]); (with_reducible refine hi.mono ?_); rintro e w1 ⟨rfl, R1, O1⟩)
  have hsz := O1.size
  have S2 : Six (w1.alloc (.cells #[.int .i64 3, .bool false, .int .i64 0, .string ⟨#[]⟩, .string ⟨#[]⟩, .slice none 0 0] 28)) w1.heap.size 3 false 0 ⟨#[]⟩ ⟨#[]⟩ none 0 0 := six_new _ rfl
  replace S := (S.only O1 hBR).alloc (.cells #[.int .i64 3, .bool false, .int .i64 0, .string ⟨#[]⟩, .string ⟨#[]⟩, .slice none 0 0] 28)
  replace R1 := R1.below (below1 w1 (.cells #[.int .i64 3, .bool false, .int .i64 0, .string ⟨#[]⟩, .string ⟨#[]⟩, .slice none 0 0] 28))
  replace O := (O.trans O1).alloc (.cells #[.int .i64 3, .bool false, .int .i64 0, .string ⟨#[]⟩, .string ⟨#[]⟩, .slice none 0 0] 28)
  obtain ⟨B, hB⟩ : ∃ B, B = w1.heap.size := ⟨_, rfl⟩
  have hBw : w.heap.size < B := by omega
  have hBR2 : B ≠ R := by omega
  have hBne : w.heap.size ≠ B := by omega
  have hRB : R < B := by omega
  rw [← hB] at S2 ⊢
  generalize w1.alloc (.cells #[.int .i64 3, .bool false, .int .i64 0, .string ⟨#[]⟩, .string ⟨#[]⟩, .slice none 0 0] 28) = W2 at S S2 R1 O ⊢
  have f0 := S2.c0
  clear hi O1 hB hsz
  cases ht : rzT r with
  | none =>
    have hm : ∀ W, Rz W R r false → Calls Tryz.prog 115 #[.pointer (some ⟨R, 0, none⟩)] W fun e w' => (∃ t : ByteArray, e = .returned (.string t)) ∧ (∃ l', l'.length ≤ (r).length ∧ Rz w' R l' true) ∧ Only R W w' := fun W hR => txtBad R r false W (.inr ht) hR hl2
    go_upto_region 28 with (first
      | (go_at_call 115; (with_reducible refine (hm _ R1).mono ?_); rintro e w3 ⟨⟨t, rfl⟩, ⟨l3w3, hl3w3, R3⟩, O3⟩; replace S := S.only O3 hBR; replace S2 := S2.only O3 hBR2; have c3 := S2.c3; have f3 := S2.free 3; have on5 := (Only.refl B w3).setCell 3 none (.string t); have R4 := R3.six S2 on5 hRB; replace S := S.only on5 hBne; replace O := (O.trans O3).new on5 (by omega); replace S2 := S2.set3 t; clear O3 R3 R1))
    have R1 := R4
    clear c3 f3 f0 R4
    go_wp2_with (first
      | ((with_reducible refine wpList_load6 (.tmp 5) B S2 ?_ ?_ ?_ ?_); rfl; rfl; rfl)
      | ((with_reducible refine wpList_store6 (k' := 3) (b' := false) (n' := 0) (t' := t) (x' := ⟨#[]⟩) (p' := none) (len' := 0) (cap' := 0) (.tmp 4) (.tmp 100) w.heap.size S ?_ ?_ ?_ ?_ ?_); rfl; rfl; rfl; rfl; intro w9 on9 S9))
    have R9 := R1.six S on9 hRw
    have O9 := O.new on9 (Nat.le_refl _)
    refine bodyPost_ret (results_six1 (p := 4) Tryz.results71 _ rfl S9) rfl (.inl ⟨.inr ?_, ⟨_, _, _, _, _, _, _, _, rfl⟩, ⟨_, by omega, R9⟩, O9⟩)
    rw [HV.out]
    show (match rzT r with | none => none | some (t, r') => some (Val.mk 3 false 0 t E0 [], r')) = _
    rw [ht]
  | some pp =>
    obtain ⟨t, r'⟩ := pp
    have hm : ∀ W, Rz W R r false → Calls Tryz.prog 115 #[.pointer (some ⟨R, 0, none⟩)] W fun e w' => e = .returned (.string t) ∧ t.size ≤ (r).length ∧ r'.length ≤ (r).length ∧ Rz w' R r' false ∧ Only R W w' := fun W hR => txtGood R r r' t W ht hR hl2
    go_upto_region 28 with (first
      | (go_at_call 115; (with_reducible refine (hm _ R1).mono ?_); rintro e w3 ⟨rfl, h1w3, h2w3, R3, O3⟩; replace S := S.only O3 hBR; replace S2 := S2.only O3 hBR2; have c3 := S2.c3; have f3 := S2.free 3; have on5 := (Only.refl B w3).setCell 3 none (.string t); replace R1 := R3.six S2 on5 hRB; replace S := S.only on5 hBne; replace O := (O.trans O3).new on5 (by omega); replace S2 := S2.set3 t; clear O3 R3))
    clear c3 f3 f0
    go_wp2_with (first
      | ((with_reducible refine wpList_load6 (.tmp 5) B S2 ?_ ?_ ?_ ?_); rfl; rfl; rfl)
      | ((with_reducible refine wpList_store6 (k' := 3) (b' := false) (n' := 0) (t' := t) (x' := ⟨#[]⟩) (p' := none) (len' := 0) (cap' := 0) (.tmp 4) (.tmp 100) w.heap.size S ?_ ?_ ?_ ?_ ?_); rfl; rfl; rfl; rfl; intro w9 on9 S9))
    have R9 := R1.six S on9 hRw
    have O9 := O.new on9 (Nat.le_refl _)
    refine bodyPost_ret (results_six1 (p := 4) Tryz.results71 _ rfl S9) rfl (.inr ⟨3, false, 0, t, ⟨#[]⟩, [], none, 0, r', rfl, ?_, (by omega), ⟨by omega, by decide, by decide, by decide, by decide⟩, rfl, heldNilZ _ _ _ _, R9, O9⟩)
    rw [HV.out]
    show (match rzT r with | none => none | some (t, r') => some (Val.mk 3 false 0 t E0 [], r')) = _
    rw [ht]
    rfl

set_option maxRecDepth 20000 in
set_option maxHeartbeats 6400000 in
theorem rzText (R d f : Nat) (l r : List UInt8) (c : UInt8) (w : World) (hlr : l = c :: r) (hc : c.toNat = 4) (h : Rz w R l false) (hl : l.length ≤ 1000000000) (hl3 : l.length ≤ 1048576) :
    Calls Tryz.prog 71 #[.pointer (some ⟨R, 0, none⟩), .int .i64 d] w (RzPost f R l false w) := by
  have hv : rzV f l = rzK (if f = 0 then none else some (rzV (f - 1))) 4 r := by rw [hlr, rzV_cons, hc]
  have hrl : r.length ≤ l.length := by rw [hlr]; simp
  have hl2 : r.length ≤ 1000000000 := by omega
  obtain ⟨W0, hW0⟩ : ∃ W0, W0 = w.alloc (.cells #[.int .i64 0, .bool false, .int .i64 0, .string ⟨#[]⟩, .string ⟨#[]⟩, .slice none 0 0] 28) := ⟨_, rfl⟩
  have S : Six W0 w.heap.size 0 false 0 ⟨#[]⟩ ⟨#[]⟩ none 0 0 := by rw [hW0]; exact six_new _ rfl
  have b0 : Below w.heap.size w W0 := by rw [hW0]; exact below1 _ _
  have hBR : w.heap.size ≠ R := by have := h.lt; omega
  have hRw : R < w.heap.size := h.lt
  have z0 : W0.heap.size = w.heap.size + 1 := by rw [hW0]; simp
  have hi := numOne R l r c 4 W0 hlr (by rw [hc]; rfl) (h.below b0) hl
  have O : Only R w W0 := Only.of_below b0
  have H0 := Lib.hid hW0
  have HV := Lib.hid hv
  clear hW0 hv h b0 hlr hc
  go_enter Tryz.func71, Tryz.ntmps71
  go_upto_region 2 with (go_at_call 114; (try rw [← H0.out]); (with_reducible refine hi.mono ?_); rintro e w1 ⟨rfl, R1, O1⟩)
  have hsz := O1.size
  have S2 : Six (w1.alloc (.cells #[.int .i64 4, .bool false, .int .i64 0, .string ⟨#[]⟩, .string ⟨#[]⟩, .slice none 0 0] 28)) w1.heap.size 4 false 0 ⟨#[]⟩ ⟨#[]⟩ none 0 0 := six_new _ rfl
  replace S := (S.only O1 hBR).alloc (.cells #[.int .i64 4, .bool false, .int .i64 0, .string ⟨#[]⟩, .string ⟨#[]⟩, .slice none 0 0] 28)
  replace R1 := R1.below (below1 w1 (.cells #[.int .i64 4, .bool false, .int .i64 0, .string ⟨#[]⟩, .string ⟨#[]⟩, .slice none 0 0] 28))
  replace O := (O.trans O1).alloc (.cells #[.int .i64 4, .bool false, .int .i64 0, .string ⟨#[]⟩, .string ⟨#[]⟩, .slice none 0 0] 28)
  obtain ⟨B, hB⟩ : ∃ B, B = w1.heap.size := ⟨_, rfl⟩
  have hBw : w.heap.size < B := by omega
  have hBR2 : B ≠ R := by omega
  have hBne : w.heap.size ≠ B := by omega
  have hRB : R < B := by omega
  rw [← hB] at S2 ⊢
  generalize w1.alloc (.cells #[.int .i64 4, .bool false, .int .i64 0, .string ⟨#[]⟩, .string ⟨#[]⟩, .slice none 0 0] 28) = W2 at S S2 R1 O ⊢
  have f0 := S2.c0
  clear hi O1 hB hsz
  cases ht : rzT r with
  | none =>
    have hm : ∀ W, Rz W R r false → Calls Tryz.prog 115 #[.pointer (some ⟨R, 0, none⟩)] W fun e w' => (∃ t : ByteArray, e = .returned (.string t)) ∧ (∃ l', l'.length ≤ (r).length ∧ Rz w' R l' true) ∧ Only R W w' := fun W hR => txtBad R r false W (.inr ht) hR hl2
    go_upto_region 28 with (first
      | (go_at_call 115; (with_reducible refine (hm _ R1).mono ?_); rintro e w3 ⟨⟨t, rfl⟩, ⟨l3w3, hl3w3, R3⟩, O3⟩; replace S := S.only O3 hBR; replace S2 := S2.only O3 hBR2; have c3 := S2.c3; have f3 := S2.free 3; have on5 := (Only.refl B w3).setCell 3 none (.string t); have R4 := R3.six S2 on5 hRB; replace S := S.only on5 hBne; replace O := (O.trans O3).new on5 (by omega); replace S2 := S2.set3 t; clear O3 R3 R1))
    have R1 := R4
    clear c3 f3 f0 R4
    go_wp2_with (first
      | ((with_reducible refine wpList_load6 (.tmp 5) B S2 ?_ ?_ ?_ ?_); rfl; rfl; rfl)
      | ((with_reducible refine wpList_store6 (k' := 4) (b' := false) (n' := 0) (t' := t) (x' := ⟨#[]⟩) (p' := none) (len' := 0) (cap' := 0) (.tmp 4) (.tmp 100) w.heap.size S ?_ ?_ ?_ ?_ ?_); rfl; rfl; rfl; rfl; intro w9 on9 S9))
    have R9 := R1.six S on9 hRw
    have O9 := O.new on9 (Nat.le_refl _)
    refine bodyPost_ret (results_six1 (p := 4) Tryz.results71 _ rfl S9) rfl (.inl ⟨.inr ?_, ⟨_, _, _, _, _, _, _, _, rfl⟩, ⟨_, by omega, R9⟩, O9⟩)
    rw [HV.out]
    show (match rzT r with | none => none | some (t, r') => some (Val.mk 4 false 0 t E0 [], r')) = _
    rw [ht]
  | some pp =>
    obtain ⟨t, r'⟩ := pp
    have hm : ∀ W, Rz W R r false → Calls Tryz.prog 115 #[.pointer (some ⟨R, 0, none⟩)] W fun e w' => e = .returned (.string t) ∧ t.size ≤ (r).length ∧ r'.length ≤ (r).length ∧ Rz w' R r' false ∧ Only R W w' := fun W hR => txtGood R r r' t W ht hR hl2
    go_upto_region 28 with (first
      | (go_at_call 115; (with_reducible refine (hm _ R1).mono ?_); rintro e w3 ⟨rfl, h1w3, h2w3, R3, O3⟩; replace S := S.only O3 hBR; replace S2 := S2.only O3 hBR2; have c3 := S2.c3; have f3 := S2.free 3; have on5 := (Only.refl B w3).setCell 3 none (.string t); replace R1 := R3.six S2 on5 hRB; replace S := S.only on5 hBne; replace O := (O.trans O3).new on5 (by omega); replace S2 := S2.set3 t; clear O3 R3))
    clear c3 f3 f0
    go_wp2_with (first
      | ((with_reducible refine wpList_load6 (.tmp 5) B S2 ?_ ?_ ?_ ?_); rfl; rfl; rfl)
      | ((with_reducible refine wpList_store6 (k' := 4) (b' := false) (n' := 0) (t' := t) (x' := ⟨#[]⟩) (p' := none) (len' := 0) (cap' := 0) (.tmp 4) (.tmp 100) w.heap.size S ?_ ?_ ?_ ?_ ?_); rfl; rfl; rfl; rfl; intro w9 on9 S9))
    have R9 := R1.six S on9 hRw
    have O9 := O.new on9 (Nat.le_refl _)
    refine bodyPost_ret (results_six1 (p := 4) Tryz.results71 _ rfl S9) rfl (.inr ⟨4, false, 0, t, ⟨#[]⟩, [], none, 0, r', rfl, ?_, (by omega), ⟨by omega, by decide, by decide, by decide, by decide⟩, rfl, heldNilZ _ _ _ _, R9, O9⟩)
    rw [HV.out]
    show (match rzT r with | none => none | some (t, r') => some (Val.mk 4 false 0 t E0 [], r')) = _
    rw [ht]
    rfl

set_option maxRecDepth 20000 in
set_option maxHeartbeats 6400000 in
theorem rzIri (R d f : Nat) (l r : List UInt8) (c : UInt8) (w : World) (hlr : l = c :: r) (hc : c.toNat = 8) (h : Rz w R l false) (hl : l.length ≤ 1000000000) (hl3 : l.length ≤ 1048576) :
    Calls Tryz.prog 71 #[.pointer (some ⟨R, 0, none⟩), .int .i64 d] w (RzPost f R l false w) := by
  have hv : rzV f l = rzK (if f = 0 then none else some (rzV (f - 1))) 8 r := by rw [hlr, rzV_cons, hc]
  have hrl : r.length ≤ l.length := by rw [hlr]; simp
  have hl2 : r.length ≤ 1000000000 := by omega
  obtain ⟨W0, hW0⟩ : ∃ W0, W0 = w.alloc (.cells #[.int .i64 0, .bool false, .int .i64 0, .string ⟨#[]⟩, .string ⟨#[]⟩, .slice none 0 0] 28) := ⟨_, rfl⟩
  have S : Six W0 w.heap.size 0 false 0 ⟨#[]⟩ ⟨#[]⟩ none 0 0 := by rw [hW0]; exact six_new _ rfl
  have b0 : Below w.heap.size w W0 := by rw [hW0]; exact below1 _ _
  have hBR : w.heap.size ≠ R := by have := h.lt; omega
  have hRw : R < w.heap.size := h.lt
  have z0 : W0.heap.size = w.heap.size + 1 := by rw [hW0]; simp
  have hi := numOne R l r c 8 W0 hlr (by rw [hc]; rfl) (h.below b0) hl
  have O : Only R w W0 := Only.of_below b0
  have H0 := Lib.hid hW0
  have HV := Lib.hid hv
  clear hW0 hv h b0 hlr hc
  go_enter Tryz.func71, Tryz.ntmps71
  go_upto_region 2 with (go_at_call 114; (try rw [← H0.out]); (with_reducible refine hi.mono ?_); rintro e w1 ⟨rfl, R1, O1⟩)
  have hsz := O1.size
  have S2 : Six (w1.alloc (.cells #[.int .i64 8, .bool false, .int .i64 0, .string ⟨#[]⟩, .string ⟨#[]⟩, .slice none 0 0] 28)) w1.heap.size 8 false 0 ⟨#[]⟩ ⟨#[]⟩ none 0 0 := six_new _ rfl
  replace S := (S.only O1 hBR).alloc (.cells #[.int .i64 8, .bool false, .int .i64 0, .string ⟨#[]⟩, .string ⟨#[]⟩, .slice none 0 0] 28)
  replace R1 := R1.below (below1 w1 (.cells #[.int .i64 8, .bool false, .int .i64 0, .string ⟨#[]⟩, .string ⟨#[]⟩, .slice none 0 0] 28))
  replace O := (O.trans O1).alloc (.cells #[.int .i64 8, .bool false, .int .i64 0, .string ⟨#[]⟩, .string ⟨#[]⟩, .slice none 0 0] 28)
  obtain ⟨B, hB⟩ : ∃ B, B = w1.heap.size := ⟨_, rfl⟩
  have hBw : w.heap.size < B := by omega
  have hBR2 : B ≠ R := by omega
  have hBne : w.heap.size ≠ B := by omega
  have hRB : R < B := by omega
  rw [← hB] at S2 ⊢
  generalize w1.alloc (.cells #[.int .i64 8, .bool false, .int .i64 0, .string ⟨#[]⟩, .string ⟨#[]⟩, .slice none 0 0] 28) = W2 at S S2 R1 O ⊢
  have f0 := S2.c0
  clear hi O1 hB hsz
  cases ht : rzT r with
  | none =>
    have hm : ∀ W, Rz W R r false → Calls Tryz.prog 115 #[.pointer (some ⟨R, 0, none⟩)] W fun e w' => (∃ t : ByteArray, e = .returned (.string t)) ∧ (∃ l', l'.length ≤ (r).length ∧ Rz w' R l' true) ∧ Only R W w' := fun W hR => txtBad R r false W (.inr ht) hR hl2
    go_upto_region 28 with (first
      | (go_at_call 115; (with_reducible refine (hm _ R1).mono ?_); rintro e w3 ⟨⟨t, rfl⟩, ⟨l3w3, hl3w3, R3⟩, O3⟩; replace S := S.only O3 hBR; replace S2 := S2.only O3 hBR2; have c3 := S2.c3; have f3 := S2.free 3; have on5 := (Only.refl B w3).setCell 3 none (.string t); have R4 := R3.six S2 on5 hRB; replace S := S.only on5 hBne; replace O := (O.trans O3).new on5 (by omega); replace S2 := S2.set3 t; clear O3 R3 R1))
    have R1 := R4
    clear c3 f3 f0 R4
    go_wp2_with (first
      | ((with_reducible refine wpList_load6 (.tmp 5) B S2 ?_ ?_ ?_ ?_); rfl; rfl; rfl)
      | ((with_reducible refine wpList_store6 (k' := 8) (b' := false) (n' := 0) (t' := t) (x' := ⟨#[]⟩) (p' := none) (len' := 0) (cap' := 0) (.tmp 4) (.tmp 100) w.heap.size S ?_ ?_ ?_ ?_ ?_); rfl; rfl; rfl; rfl; intro w9 on9 S9))
    have R9 := R1.six S on9 hRw
    have O9 := O.new on9 (Nat.le_refl _)
    refine bodyPost_ret (results_six1 (p := 4) Tryz.results71 _ rfl S9) rfl (.inl ⟨.inr ?_, ⟨_, _, _, _, _, _, _, _, rfl⟩, ⟨_, by omega, R9⟩, O9⟩)
    rw [HV.out]
    show (match rzT r with | none => none | some (t, r') => some (Val.mk 8 false 0 t E0 [], r')) = _
    rw [ht]
  | some pp =>
    obtain ⟨t, r'⟩ := pp
    have hm : ∀ W, Rz W R r false → Calls Tryz.prog 115 #[.pointer (some ⟨R, 0, none⟩)] W fun e w' => e = .returned (.string t) ∧ t.size ≤ (r).length ∧ r'.length ≤ (r).length ∧ Rz w' R r' false ∧ Only R W w' := fun W hR => txtGood R r r' t W ht hR hl2
    go_upto_region 28 with (first
      | (go_at_call 115; (with_reducible refine (hm _ R1).mono ?_); rintro e w3 ⟨rfl, h1w3, h2w3, R3, O3⟩; replace S := S.only O3 hBR; replace S2 := S2.only O3 hBR2; have c3 := S2.c3; have f3 := S2.free 3; have on5 := (Only.refl B w3).setCell 3 none (.string t); replace R1 := R3.six S2 on5 hRB; replace S := S.only on5 hBne; replace O := (O.trans O3).new on5 (by omega); replace S2 := S2.set3 t; clear O3 R3))
    clear c3 f3 f0
    go_wp2_with (first
      | ((with_reducible refine wpList_load6 (.tmp 5) B S2 ?_ ?_ ?_ ?_); rfl; rfl; rfl)
      | ((with_reducible refine wpList_store6 (k' := 8) (b' := false) (n' := 0) (t' := t) (x' := ⟨#[]⟩) (p' := none) (len' := 0) (cap' := 0) (.tmp 4) (.tmp 100) w.heap.size S ?_ ?_ ?_ ?_ ?_); rfl; rfl; rfl; rfl; intro w9 on9 S9))
    have R9 := R1.six S on9 hRw
    have O9 := O.new on9 (Nat.le_refl _)
    refine bodyPost_ret (results_six1 (p := 4) Tryz.results71 _ rfl S9) rfl (.inr ⟨8, false, 0, t, ⟨#[]⟩, [], none, 0, r', rfl, ?_, (by omega), ⟨by omega, by decide, by decide, by decide, by decide⟩, rfl, heldNilZ _ _ _ _, R9, O9⟩)
    rw [HV.out]
    show (match rzT r with | none => none | some (t, r') => some (Val.mk 8 false 0 t E0 [], r')) = _
    rw [ht]
    rfl

set_option maxRecDepth 20000 in
set_option maxHeartbeats 6400000 in
theorem rzBlank (R d f : Nat) (l r : List UInt8) (c : UInt8) (w : World) (hlr : l = c :: r) (hc : c.toNat = 9) (h : Rz w R l false) (hl : l.length ≤ 1000000000) (hl3 : l.length ≤ 1048576) :
    Calls Tryz.prog 71 #[.pointer (some ⟨R, 0, none⟩), .int .i64 d] w (RzPost f R l false w) := by
  have hv : rzV f l = rzK (if f = 0 then none else some (rzV (f - 1))) 9 r := by rw [hlr, rzV_cons, hc]
  have hrl : r.length ≤ l.length := by rw [hlr]; simp
  have hl2 : r.length ≤ 1000000000 := by omega
  obtain ⟨W0, hW0⟩ : ∃ W0, W0 = w.alloc (.cells #[.int .i64 0, .bool false, .int .i64 0, .string ⟨#[]⟩, .string ⟨#[]⟩, .slice none 0 0] 28) := ⟨_, rfl⟩
  have S : Six W0 w.heap.size 0 false 0 ⟨#[]⟩ ⟨#[]⟩ none 0 0 := by rw [hW0]; exact six_new _ rfl
  have b0 : Below w.heap.size w W0 := by rw [hW0]; exact below1 _ _
  have hBR : w.heap.size ≠ R := by have := h.lt; omega
  have hRw : R < w.heap.size := h.lt
  have z0 : W0.heap.size = w.heap.size + 1 := by rw [hW0]; simp
  have hi := numOne R l r c 9 W0 hlr (by rw [hc]; rfl) (h.below b0) hl
  have O : Only R w W0 := Only.of_below b0
  have H0 := Lib.hid hW0
  have HV := Lib.hid hv
  clear hW0 hv h b0 hlr hc
  go_enter Tryz.func71, Tryz.ntmps71
  go_upto_region 2 with (go_at_call 114; (try rw [← H0.out]); (with_reducible refine hi.mono ?_); rintro e w1 ⟨rfl, R1, O1⟩)
  have hsz := O1.size
  have S2 : Six (w1.alloc (.cells #[.int .i64 9, .bool false, .int .i64 0, .string ⟨#[]⟩, .string ⟨#[]⟩, .slice none 0 0] 28)) w1.heap.size 9 false 0 ⟨#[]⟩ ⟨#[]⟩ none 0 0 := six_new _ rfl
  replace S := (S.only O1 hBR).alloc (.cells #[.int .i64 9, .bool false, .int .i64 0, .string ⟨#[]⟩, .string ⟨#[]⟩, .slice none 0 0] 28)
  replace R1 := R1.below (below1 w1 (.cells #[.int .i64 9, .bool false, .int .i64 0, .string ⟨#[]⟩, .string ⟨#[]⟩, .slice none 0 0] 28))
  replace O := (O.trans O1).alloc (.cells #[.int .i64 9, .bool false, .int .i64 0, .string ⟨#[]⟩, .string ⟨#[]⟩, .slice none 0 0] 28)
  obtain ⟨B, hB⟩ : ∃ B, B = w1.heap.size := ⟨_, rfl⟩
  have hBw : w.heap.size < B := by omega
  have hBR2 : B ≠ R := by omega
  have hBne : w.heap.size ≠ B := by omega
  have hRB : R < B := by omega
  rw [← hB] at S2 ⊢
  generalize w1.alloc (.cells #[.int .i64 9, .bool false, .int .i64 0, .string ⟨#[]⟩, .string ⟨#[]⟩, .slice none 0 0] 28) = W2 at S S2 R1 O ⊢
  have f0 := S2.c0
  clear hi O1 hB hsz
  cases ht : rzT r with
  | none =>
    have hm : ∀ W, Rz W R r false → Calls Tryz.prog 115 #[.pointer (some ⟨R, 0, none⟩)] W fun e w' => (∃ t : ByteArray, e = .returned (.string t)) ∧ (∃ l', l'.length ≤ (r).length ∧ Rz w' R l' true) ∧ Only R W w' := fun W hR => txtBad R r false W (.inr ht) hR hl2
    go_upto_region 28 with (first
      | (go_at_call 115; (with_reducible refine (hm _ R1).mono ?_); rintro e w3 ⟨⟨t, rfl⟩, ⟨l3w3, hl3w3, R3⟩, O3⟩; replace S := S.only O3 hBR; replace S2 := S2.only O3 hBR2; have c3 := S2.c3; have f3 := S2.free 3; have on5 := (Only.refl B w3).setCell 3 none (.string t); have R4 := R3.six S2 on5 hRB; replace S := S.only on5 hBne; replace O := (O.trans O3).new on5 (by omega); replace S2 := S2.set3 t; clear O3 R3 R1))
    have R1 := R4
    clear c3 f3 f0 R4
    go_wp2_with (first
      | ((with_reducible refine wpList_load6 (.tmp 5) B S2 ?_ ?_ ?_ ?_); rfl; rfl; rfl)
      | ((with_reducible refine wpList_store6 (k' := 9) (b' := false) (n' := 0) (t' := t) (x' := ⟨#[]⟩) (p' := none) (len' := 0) (cap' := 0) (.tmp 4) (.tmp 100) w.heap.size S ?_ ?_ ?_ ?_ ?_); rfl; rfl; rfl; rfl; intro w9 on9 S9))
    have R9 := R1.six S on9 hRw
    have O9 := O.new on9 (Nat.le_refl _)
    refine bodyPost_ret (results_six1 (p := 4) Tryz.results71 _ rfl S9) rfl (.inl ⟨.inr ?_, ⟨_, _, _, _, _, _, _, _, rfl⟩, ⟨_, by omega, R9⟩, O9⟩)
    rw [HV.out]
    show (match rzT r with | none => none | some (t, r') => some (Val.mk 9 false 0 t E0 [], r')) = _
    rw [ht]
  | some pp =>
    obtain ⟨t, r'⟩ := pp
    have hm : ∀ W, Rz W R r false → Calls Tryz.prog 115 #[.pointer (some ⟨R, 0, none⟩)] W fun e w' => e = .returned (.string t) ∧ t.size ≤ (r).length ∧ r'.length ≤ (r).length ∧ Rz w' R r' false ∧ Only R W w' := fun W hR => txtGood R r r' t W ht hR hl2
    go_upto_region 28 with (first
      | (go_at_call 115; (with_reducible refine (hm _ R1).mono ?_); rintro e w3 ⟨rfl, h1w3, h2w3, R3, O3⟩; replace S := S.only O3 hBR; replace S2 := S2.only O3 hBR2; have c3 := S2.c3; have f3 := S2.free 3; have on5 := (Only.refl B w3).setCell 3 none (.string t); replace R1 := R3.six S2 on5 hRB; replace S := S.only on5 hBne; replace O := (O.trans O3).new on5 (by omega); replace S2 := S2.set3 t; clear O3 R3))
    clear c3 f3 f0
    go_wp2_with (first
      | ((with_reducible refine wpList_load6 (.tmp 5) B S2 ?_ ?_ ?_ ?_); rfl; rfl; rfl)
      | ((with_reducible refine wpList_store6 (k' := 9) (b' := false) (n' := 0) (t' := t) (x' := ⟨#[]⟩) (p' := none) (len' := 0) (cap' := 0) (.tmp 4) (.tmp 100) w.heap.size S ?_ ?_ ?_ ?_ ?_); rfl; rfl; rfl; rfl; intro w9 on9 S9))
    have R9 := R1.six S on9 hRw
    have O9 := O.new on9 (Nat.le_refl _)
    refine bodyPost_ret (results_six1 (p := 4) Tryz.results71 _ rfl S9) rfl (.inr ⟨9, false, 0, t, ⟨#[]⟩, [], none, 0, r', rfl, ?_, (by omega), ⟨by omega, by decide, by decide, by decide, by decide⟩, rfl, heldNilZ _ _ _ _, R9, O9⟩)
    rw [HV.out]
    show (match rzT r with | none => none | some (t, r') => some (Val.mk 9 false 0 t E0 [], r')) = _
    rw [ht]
    rfl

set_option maxRecDepth 20000 in
set_option maxHeartbeats 6400000 in
theorem rzLit (R d f : Nat) (l r : List UInt8) (c : UInt8) (w : World) (hlr : l = c :: r) (hc : c.toNat = 10) (h : Rz w R l false) (hl : l.length ≤ 1000000000) (hl3 : l.length ≤ 1048576) :
    Calls Tryz.prog 71 #[.pointer (some ⟨R, 0, none⟩), .int .i64 d] w (RzPost f R l false w) := by
  have hv : rzV f l = rzK (if f = 0 then none else some (rzV (f - 1))) 10 r := by rw [hlr, rzV_cons, hc]
  have hrl : r.length ≤ l.length := by rw [hlr]; simp
  have hl2 : r.length ≤ 1000000000 := by omega
  obtain ⟨W0, hW0⟩ : ∃ W0, W0 = w.alloc (.cells #[.int .i64 0, .bool false, .int .i64 0, .string ⟨#[]⟩, .string ⟨#[]⟩, .slice none 0 0] 28) := ⟨_, rfl⟩
  have S : Six W0 w.heap.size 0 false 0 ⟨#[]⟩ ⟨#[]⟩ none 0 0 := by rw [hW0]; exact six_new _ rfl
  have b0 : Below w.heap.size w W0 := by rw [hW0]; exact below1 _ _
  have hBR : w.heap.size ≠ R := by have := h.lt; omega
  have hRw : R < w.heap.size := h.lt
  have z0 : W0.heap.size = w.heap.size + 1 := by rw [hW0]; simp
  have hi := numOne R l r c 10 W0 hlr (by rw [hc]; rfl) (h.below b0) hl
  have O : Only R w W0 := Only.of_below b0
  have H0 := Lib.hid hW0
  have HV := Lib.hid hv
  clear hW0 hv h b0 hlr hc
  go_enter Tryz.func71, Tryz.ntmps71
  go_upto_region 2 with (go_at_call 114; (try rw [← H0.out]); (with_reducible refine hi.mono ?_); rintro e w1 ⟨rfl, R1, O1⟩)
  have hsz := O1.size
  have S2 : Six (w1.alloc (.cells #[.int .i64 10, .bool false, .int .i64 0, .string ⟨#[]⟩, .string ⟨#[]⟩, .slice none 0 0] 28)) w1.heap.size 10 false 0 ⟨#[]⟩ ⟨#[]⟩ none 0 0 := six_new _ rfl
  replace S := (S.only O1 hBR).alloc (.cells #[.int .i64 10, .bool false, .int .i64 0, .string ⟨#[]⟩, .string ⟨#[]⟩, .slice none 0 0] 28)
  replace R1 := R1.below (below1 w1 (.cells #[.int .i64 10, .bool false, .int .i64 0, .string ⟨#[]⟩, .string ⟨#[]⟩, .slice none 0 0] 28))
  replace O := (O.trans O1).alloc (.cells #[.int .i64 10, .bool false, .int .i64 0, .string ⟨#[]⟩, .string ⟨#[]⟩, .slice none 0 0] 28)
  obtain ⟨B, hB⟩ : ∃ B, B = w1.heap.size := ⟨_, rfl⟩
  have hBw : w.heap.size < B := by omega
  have hBR2 : B ≠ R := by omega
  have hBne : w.heap.size ≠ B := by omega
  have hRB : R < B := by omega
  rw [← hB] at S2 ⊢
  generalize w1.alloc (.cells #[.int .i64 10, .bool false, .int .i64 0, .string ⟨#[]⟩, .string ⟨#[]⟩, .slice none 0 0] 28) = W2 at S S2 R1 O ⊢
  have f0 := S2.c0
  clear hi O1 hB hsz
  cases ht : rzT r with
  | none =>
    have hm : ∀ W, Rz W R r false → Calls Tryz.prog 115 #[.pointer (some ⟨R, 0, none⟩)] W fun e w' => (∃ t : ByteArray, e = .returned (.string t)) ∧ (∃ l', l'.length ≤ (r).length ∧ Rz w' R l' true) ∧ Only R W w' := fun W hR => txtBad R r false W (.inr ht) hR hl2
    go_upto_region 20 with (first
      | (go_at_call 115; (with_reducible refine (hm _ R1).mono ?_); rintro e w3 ⟨⟨t, rfl⟩, ⟨l3w3, hl3w3, R3⟩, O3⟩; replace S := S.only O3 hBR; replace S2 := S2.only O3 hBR2; have c3 := S2.c3; have f3 := S2.free 3; have on5 := (Only.refl B w3).setCell 3 none (.string t); have R4 := R3.six S2 on5 hRB; replace S := S.only on5 hBne; replace O := (O.trans O3).new on5 (by omega); replace S2 := S2.set3 t; clear O3 R3 R1))
    have R1 := R4
    clear c3 f3 f0 R4
    have hm2 : ∀ W, Rz W R l3w3 true → Calls Tryz.prog 115 #[.pointer (some ⟨R, 0, none⟩)] W fun e w' => (∃ t : ByteArray, e = .returned (.string t)) ∧ (∃ l', l'.length ≤ (l3w3).length ∧ Rz w' R l' true) ∧ Only R W w' := fun W hR => txtBad R l3w3 true W (.inl rfl) hR (by omega)
    go_upto_region 28 with (first
      | (go_at_call 115; (with_reducible refine (hm2 _ R1).mono ?_); rintro e w4 ⟨⟨x, rfl⟩, ⟨l3w4, hl3w4, R3⟩, O3⟩; replace S := S.only O3 hBR; replace S2 := S2.only O3 hBR2; have c3 := S2.c4; have f3 := S2.free 4; have on5 := (Only.refl B w4).setCell 4 none (.string x); have R4 := R3.six S2 on5 hRB; replace S := S.only on5 hBne; replace O := (O.trans O3).new on5 (by omega); replace S2 := S2.set4 x; clear O3 R3 R1))
    have R1 := R4
    clear c3 f3 R4
    go_wp2_with (first
      | ((with_reducible refine wpList_load6 (.tmp 5) B S2 ?_ ?_ ?_ ?_); rfl; rfl; rfl)
      | ((with_reducible refine wpList_store6 (k' := 10) (b' := false) (n' := 0) (t' := t) (x' := x) (p' := none) (len' := 0) (cap' := 0) (.tmp 4) (.tmp 100) w.heap.size S ?_ ?_ ?_ ?_ ?_); rfl; rfl; rfl; rfl; intro w9 on9 S9))
    have R9 := R1.six S on9 hRw
    have O9 := O.new on9 (Nat.le_refl _)
    refine bodyPost_ret (results_six1 (p := 4) Tryz.results71 _ rfl S9) rfl (.inl ⟨.inr ?_, ⟨_, _, _, _, _, _, _, _, rfl⟩, ⟨_, by omega, R9⟩, O9⟩)
    rw [HV.out]
    show (match rzT r with | none => none | some (t, r') => (match rzT r' with | none => none | some (x, r'') => some (Val.mk 10 false 0 t x [], r''))) = _
    rw [ht]
  | some pp =>
    obtain ⟨t, r'⟩ := pp
    have hm : ∀ W, Rz W R r false → Calls Tryz.prog 115 #[.pointer (some ⟨R, 0, none⟩)] W fun e w' => e = .returned (.string t) ∧ t.size ≤ (r).length ∧ r'.length ≤ (r).length ∧ Rz w' R r' false ∧ Only R W w' := fun W hR => txtGood R r r' t W ht hR hl2
    go_upto_region 20 with (first
      | (go_at_call 115; (with_reducible refine (hm _ R1).mono ?_); rintro e w3 ⟨rfl, h1w3, h2w3, R3, O3⟩; replace S := S.only O3 hBR; replace S2 := S2.only O3 hBR2; have c3 := S2.c3; have f3 := S2.free 3; have on5 := (Only.refl B w3).setCell 3 none (.string t); replace R1 := R3.six S2 on5 hRB; replace S := S.only on5 hBne; replace O := (O.trans O3).new on5 (by omega); replace S2 := S2.set3 t; clear O3 R3))
    clear c3 f3 f0
    have hl4 : r'.length ≤ 1000000000 := by omega
    cases hx : rzT r' with
    | none =>
      have hm2 : ∀ W, Rz W R r' false → Calls Tryz.prog 115 #[.pointer (some ⟨R, 0, none⟩)] W fun e w' => (∃ t : ByteArray, e = .returned (.string t)) ∧ (∃ l', l'.length ≤ (r').length ∧ Rz w' R l' true) ∧ Only R W w' := fun W hR => txtBad R r' false W (.inr hx) hR hl4
      go_upto_region 28 with (first
        | (go_at_call 115; (with_reducible refine (hm2 _ R1).mono ?_); rintro e w4 ⟨⟨x, rfl⟩, ⟨l3w4, hl3w4, R3⟩, O3⟩; replace S := S.only O3 hBR; replace S2 := S2.only O3 hBR2; have c3 := S2.c4; have f3 := S2.free 4; have on5 := (Only.refl B w4).setCell 4 none (.string x); have R4 := R3.six S2 on5 hRB; replace S := S.only on5 hBne; replace O := (O.trans O3).new on5 (by omega); replace S2 := S2.set4 x; clear O3 R3 R1))
      have R1 := R4
      clear c3 f3 R4
      go_wp2_with (first
        | ((with_reducible refine wpList_load6 (.tmp 5) B S2 ?_ ?_ ?_ ?_); rfl; rfl; rfl)
        | ((with_reducible refine wpList_store6 (k' := 10) (b' := false) (n' := 0) (t' := t) (x' := x) (p' := none) (len' := 0) (cap' := 0) (.tmp 4) (.tmp 100) w.heap.size S ?_ ?_ ?_ ?_ ?_); rfl; rfl; rfl; rfl; intro w9 on9 S9))
      have R9 := R1.six S on9 hRw
      have O9 := O.new on9 (Nat.le_refl _)
      refine bodyPost_ret (results_six1 (p := 4) Tryz.results71 _ rfl S9) rfl (.inl ⟨.inr ?_, ⟨_, _, _, _, _, _, _, _, rfl⟩, ⟨_, by omega, R9⟩, O9⟩)
      rw [HV.out]
      show (match rzT r with | none => none | some (t, r') => (match rzT r' with | none => none | some (x, r'') => some (Val.mk 10 false 0 t x [], r''))) = _
      rw [ht]
      simp only
      rw [hx]
    | some pp2 =>
      obtain ⟨x, r''⟩ := pp2
      have hm2 : ∀ W, Rz W R r' false → Calls Tryz.prog 115 #[.pointer (some ⟨R, 0, none⟩)] W fun e w' => e = .returned (.string x) ∧ x.size ≤ (r').length ∧ r''.length ≤ (r').length ∧ Rz w' R r'' false ∧ Only R W w' := fun W hR => txtGood R r' r'' x W hx hR hl4
      go_upto_region 28 with (first
        | (go_at_call 115; (with_reducible refine (hm2 _ R1).mono ?_); rintro e w4 ⟨rfl, h1w4, h2w4, R3, O3⟩; replace S := S.only O3 hBR; replace S2 := S2.only O3 hBR2; have c3 := S2.c4; have f3 := S2.free 4; have on5 := (Only.refl B w4).setCell 4 none (.string x); replace R1 := R3.six S2 on5 hRB; replace S := S.only on5 hBne; replace O := (O.trans O3).new on5 (by omega); replace S2 := S2.set4 x; clear O3 R3))
      clear c3 f3
      go_wp2_with (first
        | ((with_reducible refine wpList_load6 (.tmp 5) B S2 ?_ ?_ ?_ ?_); rfl; rfl; rfl)
        | ((with_reducible refine wpList_store6 (k' := 10) (b' := false) (n' := 0) (t' := t) (x' := x) (p' := none) (len' := 0) (cap' := 0) (.tmp 4) (.tmp 100) w.heap.size S ?_ ?_ ?_ ?_ ?_); rfl; rfl; rfl; rfl; intro w9 on9 S9))
      have R9 := R1.six S on9 hRw
      have O9 := O.new on9 (Nat.le_refl _)
      refine bodyPost_ret (results_six1 (p := 4) Tryz.results71 _ rfl S9) rfl (.inr ⟨10, false, 0, t, x, [], none, 0, r'', rfl, ?_, (by omega), ⟨by omega, by omega, by decide, by decide, by decide⟩, rfl, heldNilZ _ _ _ _, R9, O9⟩)
      rw [HV.out]
      show (match rzT r with | none => none | some (t, r') => (match rzT r' with | none => none | some (x, r'') => some (Val.mk 10 false 0 t x [], r''))) = _
      rw [ht]
      simp only
      rw [hx]

end Go.Proofs.YtoifjjgakblhhaaGreatDoor
