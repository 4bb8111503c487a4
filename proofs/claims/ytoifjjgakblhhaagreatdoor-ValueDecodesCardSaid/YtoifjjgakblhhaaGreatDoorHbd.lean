/- Texts of one kind, one behind the other: each says ahead of itself what it shows. -/
import Derived.Test.YtoifjjgakblhhaaGreatDoorHbc
import Derived.Test.YtoifjjgakblhhaaGreatDoorHaq
import Derived.Test.YtoifjjgakblhhaaGreatDoorHal
import Derived.Test.YtoifjjgakblhhaaGreatDoorHar
/- The document's own reader: a value, kind by kind. -/
namespace Go.Proofs.YtoifjjgakblhhaaGreatDoor
open Go.RowKit

theorem results_six1 {fn : Func} {p : Tmp} (h : fn.results = #[.cell p 28]) (tmps : Array Value) {w : World} {g : Nat} {k : Int} {b : Bool} {n : Int} {t x : ByteArray} {pp : Option Addr} {len cap : Nat}
    (hp : tmps.getD p undef = .pointer (some ⟨g, 0, none⟩)) (hg : Six w g k b n t x pp len cap) : (results fn tmps).run Tryz.prog w = .ok (.agg #[.int .i64 k, .bool b, .int .i64 n, .string t, .string x, .slice pp len cap]) w := by
  have hp' : tmps[p]?.getD undef = .pointer (some ⟨g, 0, none⟩) := by simpa using hp
  have hl := run_loadVar_row (P := Tryz.prog) w g 28 28 _ (0, 0) _ hg Tryz.underlying28 rfl info28
  simp [results, h, hp', asAddr, hl]
theorem Rz.c1 {w : World} {R : Nat} {l : List UInt8} {bad : Bool} (h : Rz w R l bad) : w.cell? ⟨R, 1, none⟩ = some (.bool bad) := by
  obtain ⟨p, cap, h, _⟩ := h
  exact cell_of h _ rfl
theorem Rz.f1 {w : World} {R : Nat} {l : List UInt8} {bad : Bool} (h : Rz w R l bad) : w.frozen? ⟨R, 1, none⟩ = false := by
  obtain ⟨p, cap, h, _⟩ := h
  exact free_of h _
/-- A value's box was written: the reader is as it was. -/
theorem Rz.six {w w' : World} {R B : Nat} {l : List UInt8} {bad : Bool} {k : Int} {b : Bool} {n : Int} {t x : ByteArray} {p : Option Addr} {len cap : Nat} (h : Rz w R l bad) (_S : Six w B k b n t x p len cap) (o : Only B w w') (hRB : R < B) : Rz w' R l bad := by
  obtain ⟨p1, cap1, h1, h2, h3, h4⟩ := h
  refine ⟨p1, cap1, (o.block R (lt_of_heap h1) (by omega)).trans h1, h2, h3, ?_⟩
  rcases h4 with h4 | ⟨g, off, e, hg, hc⟩
  · exact .inl h4
  · exact .inr ⟨g, off, e, hg, fun j c hj => (World.cell?_of_block (w := w) (a := ⟨g, off + j, none⟩) (o.block g (World.block_lt_of_cell? w _ (hc j c hj)) (by omega))).trans (hc j c hj)⟩
/-- What the document's own value tells. -/
def RzPost (f R : Nat) (l : List UInt8) (bad : Bool) (w : World) (e : Ending) (w' : World) : Prop :=
  ((bad = true ∨ rzV f l = none) ∧ (∃ (k : Int) (b : Bool) (n : Int) (t x : ByteArray) (p : Option Addr) (len cap : Nat), e = .returned (.agg #[.int .i64 k, .bool b, .int .i64 n, .string t, .string x, .slice p len cap])) ∧ (∃ l', l'.length ≤ l.length ∧ Rz w' R l' true) ∧ Only R w w') ∨
  (∃ (k : Int) (b : Bool) (n : Int) (t x : ByteArray) (q : List Val) (p : Option Addr) (cap : Nat) (r : List UInt8), bad = false ∧ rzV f l = some (.mk k b n t x q, r) ∧ r.length ≤ l.length ∧ Fine n t x q.length ∧
    e = .returned (.agg #[.int .i64 k, .bool b, .int .i64 n, .string t, .string x, .slice p q.length cap]) ∧ HeldF w' (fun g => w.heap.size ≤ g ∧ g < w'.heap.size) (.slice p q.length cap) q ∧ Rz w' R r false ∧ Only R w w')
theorem heldNilZ (w : World) (P : Nat → Prop) (p : Option Addr) (cap : Nat) : HeldF w P (.slice p ([] : List Val).length cap) [] := by unfold HeldF; exact ⟨p, cap, rfl⟩
theorem rzV_cons (f : Nat) (c : UInt8) (r : List UInt8) : rzV f (c :: r) = rzK (if f = 0 then none else some (rzV (f - 1))) c.toNat r := by
  cases f with
  | zero => rfl
  | succ f => rfl
theorem numBad (R : Nat) (W : World) (k : Nat) (hk : k ≤ 8) (l : List UInt8) (bad : Bool) (hb : bad = true ∨ l.length < k) (h : Rz W R l bad) (hl : l.length ≤ 1000000000) :
    Calls Tryz.prog 114 #[.pointer (some ⟨R, 0, none⟩), .int .i64 k] W fun e w' => e = .returned (.int .i64 0) ∧ Rz w' R l true ∧ Only R W w' := by
  refine (numAt R l bad k W h hk hl).mono ?_
  rintro e w' (⟨_, h⟩ | ⟨⟨h1, h2⟩, _⟩)
  · exact h
  · rcases hb with hb | hb
    · rw [h1] at hb; cases hb
    · omega
theorem numGood (R : Nat) (W : World) (k : Nat) (hk : k ≤ 8) (l : List UInt8) (hlk : k ≤ l.length) (h : Rz W R l false) (hl : l.length ≤ 1000000000) :
    Calls Tryz.prog 114 #[.pointer (some ⟨R, 0, none⟩), .int .i64 k] W fun e w' => e = .returned (.int .i64 (toI64 (numW (l.take k)))) ∧ Rz w' R (l.drop k) false ∧ Only R W w' := by
  refine (numAt R l false k W h hk hl).mono ?_
  rintro e w' (⟨h1, _⟩ | ⟨_, h⟩)
  · rcases h1 with h1 | h1
    · cases h1
    · omega
  · exact h
theorem numOne (R : Nat) (l r : List UInt8) (c : UInt8) (x : Int) (W : World) (hlr : l = c :: r) (hx : (c.toNat : Int) = x) (h : Rz W R l false) (hl : l.length ≤ 1000000000) :
    Calls Tryz.prog 114 #[.pointer (some ⟨R, 0, none⟩), .int .i64 1] W fun e w' => e = .returned (.int .i64 x) ∧ Rz w' R r false ∧ Only R W w' := by
  have hi : Calls Tryz.prog 114 #[.pointer (some ⟨R, 0, none⟩), .int .i64 1] W fun e w' => e = .returned (.int .i64 (toI64 (numW (l.take 1)))) ∧ Rz w' R (l.drop 1) false ∧ Only R W w' := numGood R W 1 (by omega) l (by rw [hlr]; simp) h hl
  refine hi.mono ?_
  subst hlr
  rintro e w' ⟨he, h⟩
  refine ⟨?_, h⟩
  have hlt := UInt8.toNat_lt c
  rw [he, ← hx, toI64_small _ (by simp [numW]; omega)]
  simp [numW]

set_option maxRecDepth 20000 in
set_option maxHeartbeats 6400000 in
theorem rzBad (R d f : Nat) (l : List UInt8) (bad : Bool) (w : World) (hb : bad = true ∨ l = []) (h : Rz w R l bad) (hl : l.length ≤ 1000000000) :
    Calls Tryz.prog 71 #[.pointer (some ⟨R, 0, none⟩), .int .i64 d] w (RzPost f R l bad w) := by
  have hv : bad = true ∨ rzV f l = none := by
    rcases hb with h | h
    · exact .inl h
    · subst h
      exact .inr (by cases f <;> rfl)
  obtain ⟨W0, hW0⟩ : ∃ W0, W0 = w.alloc (.cells #[.int .i64 0, .bool false, .int .i64 0, .string ⟨#[]⟩, .string ⟨#[]⟩, .slice none 0 0] 28) := ⟨_, rfl⟩
  have S : Six W0 w.heap.size 0 false 0 ⟨#[]⟩ ⟨#[]⟩ none 0 0 := by rw [hW0]; exact six_new _ rfl
  have b0 : Below w.heap.size w W0 := by rw [hW0]; exact below1 _ _
  have hBR : w.heap.size ≠ R := by have := h.lt; omega
  have hRw : R < w.heap.size := h.lt
  have z0 : W0.heap.size = w.heap.size + 1 := by rw [hW0]; simp
  have hi : Calls Tryz.prog 114 #[.pointer (some ⟨R, 0, none⟩), .int .i64 1] W0 fun e w' => e = .returned (.int .i64 0) ∧ Rz w' R l true ∧ Only R W0 w' := numBad R W0 1 (by omega) l bad (by rcases hb with h | h; exact .inl h; exact .inr (by rw [h]; decide)) (h.below b0) hl
  have O : Only R w W0 := Only.of_below b0
  have H0 := Lib.hid hW0
  have HV := Lib.hid hv
  clear hW0 hv h b0 hb
  go_enter Tryz.func71, Tryz.ntmps71
  go_upto_region 2 with (go_at_call 114; (try rw [← H0.out]); (with_reducible refine hi.mono ?_); rintro e w1 ⟨rfl, R1, O1⟩)
  have hsz := O1.size
  have S2 : Six (w1.alloc (.cells #[.int .i64 0, .bool false, .int .i64 0, .string ⟨#[]⟩, .string ⟨#[]⟩, .slice none 0 0] 28)) w1.heap.size 0 false 0 ⟨#[]⟩ ⟨#[]⟩ none 0 0 := six_new _ rfl
  replace S := (S.only O1 hBR).alloc (.cells #[.int .i64 0, .bool false, .int .i64 0, .string ⟨#[]⟩, .string ⟨#[]⟩, .slice none 0 0] 28)
  replace R1 := R1.below (below1 w1 (.cells #[.int .i64 0, .bool false, .int .i64 0, .string ⟨#[]⟩, .string ⟨#[]⟩, .slice none 0 0] 28))
  replace O := (O.trans O1).alloc (.cells #[.int .i64 0, .bool false, .int .i64 0, .string ⟨#[]⟩, .string ⟨#[]⟩, .slice none 0 0] 28)
  obtain ⟨B, hB⟩ : ∃ B, B = w1.heap.size := ⟨_, rfl⟩
  have hBw : w.heap.size < B := by omega
  have hBR2 : B ≠ R := by omega
  have hBne : w.heap.size ≠ B := by omega
  have hRB : R < B := by omega
  rw [← hB] at S2 ⊢
  generalize w1.alloc (.cells #[.int .i64 0, .bool false, .int .i64 0, .string ⟨#[]⟩, .string ⟨#[]⟩, .slice none 0 0] 28) = W2 at S S2 R1 O ⊢
  have f0 := S2.c0
  clear hi O1 hB hsz
  go_wp2_with (first
    | ((with_reducible refine wpList_load6 (.tmp 5) B S2 ?_ ?_ ?_ ?_); rfl; rfl; rfl)
    | ((with_reducible refine wpList_store6 (k' := 0) (b' := false) (n' := 0) (t' := ⟨#[]⟩) (x' := ⟨#[]⟩) (p' := none) (len' := 0) (cap' := 0) (.tmp 4) (.tmp 100) w.heap.size S ?_ ?_ ?_ ?_ ?_); rfl; rfl; rfl; rfl; intro w9 on9 S9))
  have R9 := R1.six S on9 hRw
  have O9 := O.new on9 (Nat.le_refl _)
  exact bodyPost_ret (results_six1 (p := 4) Tryz.results71 _ rfl S9) rfl (.inl ⟨HV.out, ⟨_, _, _, _, _, _, _, _, rfl⟩, ⟨_, Nat.le_refl _, R9⟩, O9⟩)

set_option maxRecDepth 20000 in
set_option maxHeartbeats 6400000 in
theorem rzNull (R d f : Nat) (l r : List UInt8) (c : UInt8) (w : World) (hlr : l = c :: r) (hc : c.toNat = 0) (h : Rz w R l false) (hl : l.length ≤ 1000000000) :
    Calls Tryz.prog 71 #[.pointer (some ⟨R, 0, none⟩), .int .i64 d] w (RzPost f R l false w) := by
  have hv : rzV f l = rzK (if f = 0 then none else some (rzV (f - 1))) 0 r := by rw [hlr, rzV_cons, hc]
  have hrl : r.length ≤ l.length := by rw [hlr]; simp
  have hl2 : r.length ≤ 1000000000 := by omega
  obtain ⟨W0, hW0⟩ : ∃ W0, W0 = w.alloc (.cells #[.int .i64 0, .bool false, .int .i64 0, .string ⟨#[]⟩, .string ⟨#[]⟩, .slice none 0 0] 28) := ⟨_, rfl⟩
  have S : Six W0 w.heap.size 0 false 0 ⟨#[]⟩ ⟨#[]⟩ none 0 0 := by rw [hW0]; exact six_new _ rfl
  have b0 : Below w.heap.size w W0 := by rw [hW0]; exact below1 _ _
  have hBR : w.heap.size ≠ R := by have := h.lt; omega
  have hRw : R < w.heap.size := h.lt
  have z0 : W0.heap.size = w.heap.size + 1 := by rw [hW0]; simp
  have hi := numOne R l r c 0 W0 hlr (by rw [hc]; rfl) (h.below b0) hl
  have O : Only R w W0 := Only.of_below b0
  have H0 := Lib.hid hW0
  have HV := Lib.hid hv
  clear hW0 hv h b0 hlr hc
  go_enter Tryz.func71, Tryz.ntmps71
  go_upto_region 2 with (go_at_call 114; (try rw [← H0.out]); (with_reducible refine hi.mono ?_); rintro e w1 ⟨rfl, R1, O1⟩)
  have hsz := O1.size
  have S2 : Six (w1.alloc (.cells #[.int .i64 0, .bool false, .int .i64 0, .string ⟨#[]⟩, .string ⟨#[]⟩, .slice none 0 0] 28)) w1.heap.size 0 false 0 ⟨#[]⟩ ⟨#[]⟩ none 0 0 := six_new _ rfl
  replace S := (S.only O1 hBR).alloc (.cells #[.int .i64 0, .bool false, .int .i64 0, .string ⟨#[]⟩, .string ⟨#[]⟩, .slice none 0 0] 28)
  replace R1 := R1.below (below1 w1 (.cells #[.int .i64 0, .bool false, .int .i64 0, .string ⟨#[]⟩, .string ⟨#[]⟩, .slice none 0 0] 28))
  replace O := (O.trans O1).alloc (.cells #[.int .i64 0, .bool false, .int .i64 0, .string ⟨#[]⟩, .string ⟨#[]⟩, .slice none 0 0] 28)
  obtain ⟨B, hB⟩ : ∃ B, B = w1.heap.size := ⟨_, rfl⟩
  have hBw : w.heap.size < B := by omega
  have hBR2 : B ≠ R := by omega
  have hBne : w.heap.size ≠ B := by omega
  have hRB : R < B := by omega
  rw [← hB] at S2 ⊢
  generalize w1.alloc (.cells #[.int .i64 0, .bool false, .int .i64 0, .string ⟨#[]⟩, .string ⟨#[]⟩, .slice none 0 0] 28) = W2 at S S2 R1 O ⊢
  have f0 := S2.c0
  clear hi O1 hB hsz
  go_wp2_with (first
    | ((with_reducible refine wpList_load6 (.tmp 5) B S2 ?_ ?_ ?_ ?_); rfl; rfl; rfl)
    | ((with_reducible refine wpList_store6 (k' := 0) (b' := false) (n' := 0) (t' := ⟨#[]⟩) (x' := ⟨#[]⟩) (p' := none) (len' := 0) (cap' := 0) (.tmp 4) (.tmp 100) w.heap.size S ?_ ?_ ?_ ?_ ?_); rfl; rfl; rfl; rfl; intro w9 on9 S9))
  have R9 := R1.six S on9 hRw
  have O9 := O.new on9 (Nat.le_refl _)
  refine bodyPost_ret (results_six1 (p := 4) Tryz.results71 _ rfl S9) rfl (.inr ⟨0, false, 0, ⟨#[]⟩, ⟨#[]⟩, [], none, 0, r, rfl, ?_, hrl, ⟨by decide, by decide, by decide, by decide, by decide⟩, rfl, heldNilZ _ _ _ _, R9, O9⟩)
  rw [HV.out]
  rfl

set_option maxRecDepth 20000 in
set_option maxHeartbeats 6400000 in
theorem rzStranger (R d f : Nat) (l r : List UInt8) (c : UInt8) (w : World) (hlr : l = c :: r) (k : Nat) (hk : 10 < k) (hc : c.toNat = k) (h : Rz w R l false) (hl : l.length ≤ 1000000000) :
    Calls Tryz.prog 71 #[.pointer (some ⟨R, 0, none⟩), .int .i64 d] w (RzPost f R l false w) := by
  have hv : rzV f l = rzK (if f = 0 then none else some (rzV (f - 1))) k r := by rw [hlr, rzV_cons, hc]
  have hrl : r.length ≤ l.length := by rw [hlr]; simp
  have hl2 : r.length ≤ 1000000000 := by omega
  have hk256 : k < 256 := by rw [← hc]; exact UInt8.toNat_lt c
  obtain ⟨W0, hW0⟩ : ∃ W0, W0 = w.alloc (.cells #[.int .i64 0, .bool false, .int .i64 0, .string ⟨#[]⟩, .string ⟨#[]⟩, .slice none 0 0] 28) := ⟨_, rfl⟩
  have S : Six W0 w.heap.size 0 false 0 ⟨#[]⟩ ⟨#[]⟩ none 0 0 := by rw [hW0]; exact six_new _ rfl
  have b0 : Below w.heap.size w W0 := by rw [hW0]; exact below1 _ _
  have hBR : w.heap.size ≠ R := by have := h.lt; omega
  have hRw : R < w.heap.size := h.lt
  have z0 : W0.heap.size = w.heap.size + 1 := by rw [hW0]; simp
  have hi := numOne R l r c k W0 hlr (by rw [hc]) (h.below b0) hl
  have O : Only R w W0 := Only.of_below b0
  have H0 := Lib.hid hW0
  have HV := Lib.hid hv
  clear hW0 hv h b0 hlr hc
  go_enter Tryz.func71, Tryz.ntmps71
  go_upto_region 2 with (go_at_call 114; (try rw [← H0.out]); (with_reducible refine hi.mono ?_); rintro e w1 ⟨rfl, R1, O1⟩)
  have hsz := O1.size
  have S2 : Six (w1.alloc (.cells #[.int .i64 k, .bool false, .int .i64 0, .string ⟨#[]⟩, .string ⟨#[]⟩, .slice none 0 0] 28)) w1.heap.size k false 0 ⟨#[]⟩ ⟨#[]⟩ none 0 0 := six_new _ rfl
  replace S := (S.only O1 hBR).alloc (.cells #[.int .i64 k, .bool false, .int .i64 0, .string ⟨#[]⟩, .string ⟨#[]⟩, .slice none 0 0] 28)
  replace R1 := R1.below (below1 w1 (.cells #[.int .i64 k, .bool false, .int .i64 0, .string ⟨#[]⟩, .string ⟨#[]⟩, .slice none 0 0] 28))
  replace O := (O.trans O1).alloc (.cells #[.int .i64 k, .bool false, .int .i64 0, .string ⟨#[]⟩, .string ⟨#[]⟩, .slice none 0 0] 28)
  obtain ⟨B, hB⟩ : ∃ B, B = w1.heap.size := ⟨_, rfl⟩
  have hBw : w.heap.size < B := by omega
  have hBR2 : B ≠ R := by omega
  have hBne : w.heap.size ≠ B := by omega
  have hRB : R < B := by omega
  rw [← hB] at S2 ⊢
  generalize w1.alloc (.cells #[.int .i64 k, .bool false, .int .i64 0, .string ⟨#[]⟩, .string ⟨#[]⟩, .slice none 0 0] 28) = W2 at S S2 R1 O ⊢
  have f0 := S2.c0
  clear hi O1 hB hsz
  have rc := R1.c1
  have rf := R1.f1
  have hk0 : ¬((k : Int) = 0) := by omega
  have hk1 : ¬((k : Int) = 1) := by omega
  have hk2 : ¬((k : Int) = 2) := by omega
  have hk3 : ¬((k : Int) = 3) := by omega
  have hk4 : ¬((k : Int) = 4) := by omega
  have hk5 : ¬((k : Int) = 5) := by omega
  have hk6 : ¬((k : Int) = 6) := by omega
  have hk7 : ¬((k : Int) = 7) := by omega
  have hk8 : ¬((k : Int) = 8) := by omega
  have hk9 : ¬((k : Int) = 9) := by omega
  have hk10 : ¬((k : Int) = 10) := by omega
  go_upto_region 3 with fail
  have on3 : Only R W2 (W2.setCell ⟨R, 1, none⟩ (.bool true)) := (Only.refl R W2).setCell 1 none _
  go_upto_region 28 with fail
  replace S := S.only on3 hBR
  replace S2 := S2.only on3 hBR2
  replace R1 := R1.set1 true
  replace O := O.trans on3
  clear rc rf f0 hk0 hk1 hk2 hk3 hk4 hk5 hk6 hk7 hk8 hk9 hk10
  go_wp2_with (first
    | ((with_reducible refine wpList_load6 (.tmp 5) B S2 ?_ ?_ ?_ ?_); rfl; rfl; rfl)
    | ((with_reducible refine wpList_store6 (k' := k) (b' := false) (n' := 0) (t' := ⟨#[]⟩) (x' := ⟨#[]⟩) (p' := none) (len' := 0) (cap' := 0) (.tmp 4) (.tmp 100) w.heap.size S ?_ ?_ ?_ ?_ ?_); rfl; rfl; rfl; rfl; intro w9 on9 S9))
  have R9 := R1.six S on9 hRw
  have O9 := O.new on9 (Nat.le_refl _)
  refine bodyPost_ret (results_six1 (p := 4) Tryz.results71 _ rfl S9) rfl (.inl ⟨.inr ?_, ⟨_, _, _, _, _, _, _, _, rfl⟩, ⟨_, by omega, R9⟩, O9⟩)
  rw [HV.out]
  unfold rzK
  rw [if_neg (by omega), if_neg (by omega), if_neg (by omega), if_neg (by omega), if_neg (by omega), if_neg (by omega)]

set_option maxRecDepth 20000 in
set_option maxHeartbeats 6400000 in
theorem rzWhole (R d f : Nat) (l r : List UInt8) (c : UInt8) (w : World) (hlr : l = c :: r) (hc : c.toNat = 2) (h : Rz w R l false) (hl : l.length ≤ 1000000000) :
    Calls Tryz.prog 71 #[.pointer (some ⟨R, 0, none⟩), .int .i64 d] w (RzPost f R l false w) := by
  have hv : rzV f l = rzK (if f = 0 then none else some (rzV (f - 1))) 2 r := by rw [hlr, rzV_cons, hc]
  have hrl : r.length ≤ l.length := by rw [hlr]; simp
  have hl2 : r.length ≤ 1000000000 := by omega
  obtain ⟨W0, hW0⟩ : ∃ W0, W0 = w.alloc (.cells #[.int .i64 0, .bool false, .int .i64 0, .string ⟨#[]⟩, .string ⟨#[]⟩, .slice none 0 0] 28) := ⟨_, rfl⟩
  have S : Six W0 w.heap.size 0 false 0 ⟨#[]⟩ ⟨#[]⟩ none 0 0 := by rw [hW0]; exact six_new _ rfl
  have b0 : Below w.heap.size w W0 := by rw [hW0]; exact below1 _ _
  have hBR : w.heap.size ≠ R := by have := h.lt; omega
  have hRw : R < w.heap.size := h.lt
  have z0 : W0.heap.size = w.heap.size + 1 := by rw [hW0]; simp
  have hi := numOne R l r c 2 W0 hlr (by rw [hc]; rfl) (h.below b0) hl
  have O : Only R w W0 := Only.of_below b0
  have H0 := Lib.hid hW0
  have HV := Lib.hid hv
  clear hW0 hv h b0 hlr hc
  go_enter Tryz.func71, Tryz.ntmps71
  go_upto_region 2 with (go_at_call 114; (try rw [← H0.out]); (with_reducible refine hi.mono ?_); rintro e w1 ⟨rfl, R1, O1⟩)
  have hsz := O1.size
  have S2 : Six (w1.alloc (.cells #[.int .i64 2, .bool false, .int .i64 0, .string ⟨#[]⟩, .string ⟨#[]⟩, .slice none 0 0] 28)) w1.heap.size 2 false 0 ⟨#[]⟩ ⟨#[]⟩ none 0 0 := six_new _ rfl
  replace S := (S.only O1 hBR).alloc (.cells #[.int .i64 2, .bool false, .int .i64 0, .string ⟨#[]⟩, .string ⟨#[]⟩, .slice none 0 0] 28)
  replace R1 := R1.below (below1 w1 (.cells #[.int .i64 2, .bool false, .int .i64 0, .string ⟨#[]⟩, .string ⟨#[]⟩, .slice none 0 0] 28))
  replace O := (O.trans O1).alloc (.cells #[.int .i64 2, .bool false, .int .i64 0, .string ⟨#[]⟩, .string ⟨#[]⟩, .slice none 0 0] 28)
  obtain ⟨B, hB⟩ : ∃ B, B = w1.heap.size := ⟨_, rfl⟩
  have hBw : w.heap.size < B := by omega
  have hBR2 : B ≠ R := by omega
  have hBne : w.heap.size ≠ B := by omega
  have hRB : R < B := by omega
  rw [← hB] at S2 ⊢
  generalize w1.alloc (.cells #[.int .i64 2, .bool false, .int .i64 0, .string ⟨#[]⟩, .string ⟨#[]⟩, .slice none 0 0] 28) = W2 at S S2 R1 O ⊢
  have f0 := S2.c0
  clear hi O1 hB hsz
  by_cases h8 : 8 ≤ r.length
  · have hm : ∀ W, Rz W R r false → Calls Tryz.prog 114 #[.pointer (some ⟨R, 0, none⟩), .int .i64 8] W fun e w' => e = .returned (.int .i64 (toI64 (numW (r.take 8)))) ∧ Rz w' R (r.drop 8) false ∧ Only R W w' := fun W hR => numGood R W 8 (by omega) r h8 hR hl2
    have hlt : numW (r.take 8) < 18446744073709551616 := by
      have h1 := numW_lt (r.take 8)
      rw [List.length_take, Nat.min_eq_left h8] at h1
      exact h1
    have hb := toI64_bounds _ hlt
    obtain ⟨z, hzz⟩ : ∃ z, z = toI64 (numW (r.take 8)) := ⟨_, rfl⟩
    rw [← hzz] at hb hm
    have HZ := Lib.hid hzz
    clear hzz hlt
    go_upto_region 28 with (first
      | (go_at_call 114; (with_reducible refine (hm _ R1).mono ?_); rintro e w3 ⟨rfl, R3, O3⟩; replace S := S.only O3 hBR; replace S2 := S2.only O3 hBR2; have c2 := S2.c2; have f2 := S2.free 2; have on3 := (Only.refl B w3).setCell 2 none (.int .i64 z); replace R1 := R3.six S2 on3 hRB; replace S := S.only on3 hBne; replace O := (O.trans O3).new on3 (by omega); replace S2 := S2.set2 z; clear O3 R3))
    clear c2 f2 f0
    go_wp2_with (first
      | ((with_reducible refine wpList_load6 (.tmp 5) B S2 ?_ ?_ ?_ ?_); rfl; rfl; rfl)
      | ((with_reducible refine wpList_store6 (k' := 2) (b' := false) (n' := z) (t' := ⟨#[]⟩) (x' := ⟨#[]⟩) (p' := none) (len' := 0) (cap' := 0) (.tmp 4) (.tmp 100) w.heap.size S ?_ ?_ ?_ ?_ ?_); rfl; rfl; rfl; rfl; intro w9 on9 S9))
    have R9 := R1.six S on9 hRw
    have O9 := O.new on9 (Nat.le_refl _)
    refine bodyPost_ret (results_six1 (p := 4) Tryz.results71 _ rfl S9) rfl (.inr ⟨2, false, z, ⟨#[]⟩, ⟨#[]⟩, [], none, 0, (r.drop 8), rfl, ?_, (by rw [List.length_drop]; omega), ⟨by decide, by decide, by decide, hb.1, hb.2⟩, rfl, heldNilZ _ _ _ _, R9, O9⟩)
    rw [HV.out]
    show (if 8 ≤ r.length then some (Val.mk 2 false (toI64 (numW (r.take 8))) E0 E0 [], r.drop 8) else none) = _
    rw [if_pos h8, ← HZ.out]
    rfl
  · have hm : ∀ W, Rz W R r false → Calls Tryz.prog 114 #[.pointer (some ⟨R, 0, none⟩), .int .i64 8] W fun e w' => e = .returned (.int .i64 0) ∧ Rz w' R r true ∧ Only R W w' := fun W hR => numBad R W 8 (by omega) r false (.inr (by omega)) hR hl2
    go_upto_region 28 with (first
      | (go_at_call 114; (with_reducible refine (hm _ R1).mono ?_); rintro e w3 ⟨rfl, R3, O3⟩; replace S := S.only O3 hBR; replace S2 := S2.only O3 hBR2; have c2 := S2.c2; have f2 := S2.free 2; have on3 := (Only.refl B w3).setCell 2 none (.int .i64 0); have R4 := R3.six S2 on3 hRB; replace S := S.only on3 hBne; replace O := (O.trans O3).new on3 (by omega); replace S2 := S2.set2 0; clear O3 R3 R1))
    have R1 := R4
    clear c2 f2 f0 R4
    go_wp2_with (first
      | ((with_reducible refine wpList_load6 (.tmp 5) B S2 ?_ ?_ ?_ ?_); rfl; rfl; rfl)
      | ((with_reducible refine wpList_store6 (k' := 2) (b' := false) (n' := 0) (t' := ⟨#[]⟩) (x' := ⟨#[]⟩) (p' := none) (len' := 0) (cap' := 0) (.tmp 4) (.tmp 100) w.heap.size S ?_ ?_ ?_ ?_ ?_); rfl; rfl; rfl; rfl; intro w9 on9 S9))
    have R9 := R1.six S on9 hRw
    have O9 := O.new on9 (Nat.le_refl _)
    refine bodyPost_ret (results_six1 (p := 4) Tryz.results71 _ rfl S9) rfl (.inl ⟨.inr ?_, ⟨_, _, _, _, _, _, _, _, rfl⟩, ⟨_, by omega, R9⟩, O9⟩)
    rw [HV.out]
    show (if 8 ≤ r.length then some (Val.mk 2 false (toI64 (numW (r.take 8))) E0 E0 [], r.drop 8) else none) = _
    rw [if_neg h8]

set_option maxRecDepth 20000 in
set_option maxHeartbeats 6400000 in
theorem rzNode (R d f : Nat) (l r : List UInt8) (c : UInt8) (w : World) (hlr : l = c :: r) (hc : c.toNat = 6) (h : Rz w R l false) (hl : l.length ≤ 1000000000) :
    Calls Tryz.prog 71 #[.pointer (some ⟨R, 0, none⟩), .int .i64 d] w (RzPost f R l false w) := by
  have hv : rzV f l = rzK (if f = 0 then none else some (rzV (f - 1))) 6 r := by rw [hlr, rzV_cons, hc]
  have hrl : r.length ≤ l.length := by rw [hlr]; simp
  have hl2 : r.length ≤ 1000000000 := by omega
  obtain ⟨W0, hW0⟩ : ∃ W0, W0 = w.alloc (.cells #[.int .i64 0, .bool false, .int .i64 0, .string ⟨#[]⟩, .string ⟨#[]⟩, .slice none 0 0] 28) := ⟨_, rfl⟩
  have S : Six W0 w.heap.size 0 false 0 ⟨#[]⟩ ⟨#[]⟩ none 0 0 := by rw [hW0]; exact six_new _ rfl
  have b0 : Below w.heap.size w W0 := by rw [hW0]; exact below1 _ _
  have hBR : w.heap.size ≠ R := by have := h.lt; omega
  have hRw : R < w.heap.size := h.lt
  have z0 : W0.heap.size = w.heap.size + 1 := by rw [hW0]; simp
  have hi := numOne R l r c 6 W0 hlr (by rw [hc]; rfl) (h.below b0) hl
  have O : Only R w W0 := Only.of_below b0
  have H0 := Lib.hid hW0
  have HV := Lib.hid hv
  clear hW0 hv h b0 hlr hc
  go_enter Tryz.func71, Tryz.ntmps71
  go_upto_region 2 with (go_at_call 114; (try rw [← H0.out]); (with_reducible refine hi.mono ?_); rintro e w1 ⟨rfl, R1, O1⟩)
  have hsz := O1.size
  have S2 : Six (w1.alloc (.cells #[.int .i64 6, .bool false, .int .i64 0, .string ⟨#[]⟩, .string ⟨#[]⟩, .slice none 0 0] 28)) w1.heap.size 6 false 0 ⟨#[]⟩ ⟨#[]⟩ none 0 0 := six_new _ rfl
  replace S := (S.only O1 hBR).alloc (.cells #[.int .i64 6, .bool false, .int .i64 0, .string ⟨#[]⟩, .string ⟨#[]⟩, .slice none 0 0] 28)
  replace R1 := R1.below (below1 w1 (.cells #[.int .i64 6, .bool false, .int .i64 0, .string ⟨#[]⟩, .string ⟨#[]⟩, .slice none 0 0] 28))
  replace O := (O.trans O1).alloc (.cells #[.int .i64 6, .bool false, .int .i64 0, .string ⟨#[]⟩, .string ⟨#[]⟩, .slice none 0 0] 28)
  obtain ⟨B, hB⟩ : ∃ B, B = w1.heap.size := ⟨_, rfl⟩
  have hBw : w.heap.size < B := by omega
  have hBR2 : B ≠ R := by omega
  have hBne : w.heap.size ≠ B := by omega
  have hRB : R < B := by omega
  rw [← hB] at S2 ⊢
  generalize w1.alloc (.cells #[.int .i64 6, .bool false, .int .i64 0, .string ⟨#[]⟩, .string ⟨#[]⟩, .slice none 0 0] 28) = W2 at S S2 R1 O ⊢
  have f0 := S2.c0
  clear hi O1 hB hsz
  by_cases h8 : 8 ≤ r.length
  · have hm : ∀ W, Rz W R r false → Calls Tryz.prog 114 #[.pointer (some ⟨R, 0, none⟩), .int .i64 8] W fun e w' => e = .returned (.int .i64 (toI64 (numW (r.take 8)))) ∧ Rz w' R (r.drop 8) false ∧ Only R W w' := fun W hR => numGood R W 8 (by omega) r h8 hR hl2
    have hlt : numW (r.take 8) < 18446744073709551616 := by
      have h1 := numW_lt (r.take 8)
      rw [List.length_take, Nat.min_eq_left h8] at h1
      exact h1
    have hb := toI64_bounds _ hlt
    obtain ⟨z, hzz⟩ : ∃ z, z = toI64 (numW (r.take 8)) := ⟨_, rfl⟩
    rw [← hzz] at hb hm
    have HZ := Lib.hid hzz
    clear hzz hlt
    go_upto_region 28 with (first
      | (go_at_call 114; (with_reducible refine (hm _ R1).mono ?_); rintro e w3 ⟨rfl, R3, O3⟩; replace S := S.only O3 hBR; replace S2 := S2.only O3 hBR2; have c2 := S2.c2; have f2 := S2.free 2; have on3 := (Only.refl B w3).setCell 2 none (.int .i64 z); replace R1 := R3.six S2 on3 hRB; replace S := S.only on3 hBne; replace O := (O.trans O3).new on3 (by omega); replace S2 := S2.set2 z; clear O3 R3))
    clear c2 f2 f0
    go_wp2_with (first
      | ((with_reducible refine wpList_load6 (.tmp 5) B S2 ?_ ?_ ?_ ?_); rfl; rfl; rfl)
      | ((with_reducible refine wpList_store6 (k' := 6) (b' := false) (n' := z) (t' := ⟨#[]⟩) (x' := ⟨#[]⟩) (p' := none) (len' := 0) (cap' := 0) (.tmp 4) (.tmp 100) w.heap.size S ?_ ?_ ?_ ?_ ?_); rfl; rfl; rfl; rfl; intro w9 on9 S9))
    have R9 := R1.six S on9 hRw
    have O9 := O.new on9 (Nat.le_refl _)
    refine bodyPost_ret (results_six1 (p := 4) Tryz.results71 _ rfl S9) rfl (.inr ⟨6, false, z, ⟨#[]⟩, ⟨#[]⟩, [], none, 0, (r.drop 8), rfl, ?_, (by rw [List.length_drop]; omega), ⟨by decide, by decide, by decide, hb.1, hb.2⟩, rfl, heldNilZ _ _ _ _, R9, O9⟩)
    rw [HV.out]
    show (if 8 ≤ r.length then some (Val.mk 6 false (toI64 (numW (r.take 8))) E0 E0 [], r.drop 8) else none) = _
    rw [if_pos h8, ← HZ.out]
    rfl
  · have hm : ∀ W, Rz W R r false → Calls Tryz.prog 114 #[.pointer (some ⟨R, 0, none⟩), .int .i64 8] W fun e w' => e = .returned (.int .i64 0) ∧ Rz w' R r true ∧ Only R W w' := fun W hR => numBad R W 8 (by omega) r false (.inr (by omega)) hR hl2
    go_upto_region 28 with (first
      | (go_at_call 114; (with_reducible refine (hm _ R1).mono ?_); rintro e w3 ⟨rfl, R3, O3⟩; replace S := S.only O3 hBR; replace S2 := S2.only O3 hBR2; have c2 := S2.c2; have f2 := S2.free 2; have on3 := (Only.refl B w3).setCell 2 none (.int .i64 0); have R4 := R3.six S2 on3 hRB; replace S := S.only on3 hBne; replace O := (O.trans O3).new on3 (by omega); replace S2 := S2.set2 0; clear O3 R3 R1))
    have R1 := R4
    clear c2 f2 f0 R4
    go_wp2_with (first
      | ((with_reducible refine wpList_load6 (.tmp 5) B S2 ?_ ?_ ?_ ?_); rfl; rfl; rfl)
      | ((with_reducible refine wpList_store6 (k' := 6) (b' := false) (n' := 0) (t' := ⟨#[]⟩) (x' := ⟨#[]⟩) (p' := none) (len' := 0) (cap' := 0) (.tmp 4) (.tmp 100) w.heap.size S ?_ ?_ ?_ ?_ ?_); rfl; rfl; rfl; rfl; intro w9 on9 S9))
    have R9 := R1.six S on9 hRw
    have O9 := O.new on9 (Nat.le_refl _)
    refine bodyPost_ret (results_six1 (p := 4) Tryz.results71 _ rfl S9) rfl (.inl ⟨.inr ?_, ⟨_, _, _, _, _, _, _, _, rfl⟩, ⟨_, by omega, R9⟩, O9⟩)
    rw [HV.out]
    show (if 8 ≤ r.length then some (Val.mk 6 false (toI64 (numW (r.take 8))) E0 E0 [], r.drop 8) else none) = _
    rw [if_neg h8]

set_option maxRecDepth 20000 in
set_option maxHeartbeats 6400000 in
theorem rzEdge (R d f : Nat) (l r : List UInt8) (c : UInt8) (w : World) (hlr : l = c :: r) (hc : c.toNat = 7) (h : Rz w R l false) (hl : l.length ≤ 1000000000) :
    Calls Tryz.prog 71 #[.pointer (some ⟨R, 0, none⟩), .int .i64 d] w (RzPost f R l false w) := by
  have hv : rzV f l = rzK (if f = 0 then none else some (rzV (f - 1))) 7 r := by rw [hlr, rzV_cons, hc]
  have hrl : r.length ≤ l.length := by rw [hlr]; simp
  have hl2 : r.length ≤ 1000000000 := by omega
  obtain ⟨W0, hW0⟩ : ∃ W0, W0 = w.alloc (.cells #[.int .i64 0, .bool false, .int .i64 0, .string ⟨#[]⟩, .string ⟨#[]⟩, .slice none 0 0] 28) := ⟨_, rfl⟩
  have S : Six W0 w.heap.size 0 false 0 ⟨#[]⟩ ⟨#[]⟩ none 0 0 := by rw [hW0]; exact six_new _ rfl
  have b0 : Below w.heap.size w W0 := by rw [hW0]; exact below1 _ _
  have hBR : w.heap.size ≠ R := by have := h.lt; omega
  have hRw : R < w.heap.size := h.lt
  have z0 : W0.heap.size = w.heap.size + 1 := by rw [hW0]; simp
  have hi := numOne R l r c 7 W0 hlr (by rw [hc]; rfl) (h.below b0) hl
  have O : Only R w W0 := Only.of_below b0
  have H0 := Lib.hid hW0
  have HV := Lib.hid hv
  clear hW0 hv h b0 hlr hc
  go_enter Tryz.func71, Tryz.ntmps71
  go_upto_region 2 with (go_at_call 114; (try rw [← H0.out]); (with_reducible refine hi.mono ?_); rintro e w1 ⟨rfl, R1, O1⟩)
  have hsz := O1.size
  have S2 : Six (w1.alloc (.cells #[.int .i64 7, .bool false, .int .i64 0, .string ⟨#[]⟩, .string ⟨#[]⟩, .slice none 0 0] 28)) w1.heap.size 7 false 0 ⟨#[]⟩ ⟨#[]⟩ none 0 0 := six_new _ rfl
  replace S := (S.only O1 hBR).alloc (.cells #[.int .i64 7, .bool false, .int .i64 0, .string ⟨#[]⟩, .string ⟨#[]⟩, .slice none 0 0] 28)
  replace R1 := R1.below (below1 w1 (.cells #[.int .i64 7, .bool false, .int .i64 0, .string ⟨#[]⟩, .string ⟨#[]⟩, .slice none 0 0] 28))
  replace O := (O.trans O1).alloc (.cells #[.int .i64 7, .bool false, .int .i64 0, .string ⟨#[]⟩, .string ⟨#[]⟩, .slice none 0 0] 28)
  obtain ⟨B, hB⟩ : ∃ B, B = w1.heap.size := ⟨_, rfl⟩
  have hBw : w.heap.size < B := by omega
  have hBR2 : B ≠ R := by omega
  have hBne : w.heap.size ≠ B := by omega
  have hRB : R < B := by omega
  rw [← hB] at S2 ⊢
  generalize w1.alloc (.cells #[.int .i64 7, .bool false, .int .i64 0, .string ⟨#[]⟩, .string ⟨#[]⟩, .slice none 0 0] 28) = W2 at S S2 R1 O ⊢
  have f0 := S2.c0
  clear hi O1 hB hsz
  by_cases h8 : 8 ≤ r.length
  · have hm : ∀ W, Rz W R r false → Calls Tryz.prog 114 #[.pointer (some ⟨R, 0, none⟩), .int .i64 8] W fun e w' => e = .returned (.int .i64 (toI64 (numW (r.take 8)))) ∧ Rz w' R (r.drop 8) false ∧ Only R W w' := fun W hR => numGood R W 8 (by omega) r h8 hR hl2
    have hlt : numW (r.take 8) < 18446744073709551616 := by
      have h1 := numW_lt (r.take 8)
      rw [List.length_take, Nat.min_eq_left h8] at h1
      exact h1
    have hb := toI64_bounds _ hlt
    obtain ⟨z, hzz⟩ : ∃ z, z = toI64 (numW (r.take 8)) := ⟨_, rfl⟩
    rw [← hzz] at hb hm
    have HZ := Lib.hid hzz
    clear hzz hlt
    go_upto_region 28 with (first
      | (go_at_call 114; (with_reducible refine (hm _ R1).mono ?_); rintro e w3 ⟨rfl, R3, O3⟩; replace S := S.only O3 hBR; replace S2 := S2.only O3 hBR2; have c2 := S2.c2; have f2 := S2.free 2; have on3 := (Only.refl B w3).setCell 2 none (.int .i64 z); replace R1 := R3.six S2 on3 hRB; replace S := S.only on3 hBne; replace O := (O.trans O3).new on3 (by omega); replace S2 := S2.set2 z; clear O3 R3))
    clear c2 f2 f0
    go_wp2_with (first
      | ((with_reducible refine wpList_load6 (.tmp 5) B S2 ?_ ?_ ?_ ?_); rfl; rfl; rfl)
      | ((with_reducible refine wpList_store6 (k' := 7) (b' := false) (n' := z) (t' := ⟨#[]⟩) (x' := ⟨#[]⟩) (p' := none) (len' := 0) (cap' := 0) (.tmp 4) (.tmp 100) w.heap.size S ?_ ?_ ?_ ?_ ?_); rfl; rfl; rfl; rfl; intro w9 on9 S9))
    have R9 := R1.six S on9 hRw
    have O9 := O.new on9 (Nat.le_refl _)
    refine bodyPost_ret (results_six1 (p := 4) Tryz.results71 _ rfl S9) rfl (.inr ⟨7, false, z, ⟨#[]⟩, ⟨#[]⟩, [], none, 0, (r.drop 8), rfl, ?_, (by rw [List.length_drop]; omega), ⟨by decide, by decide, by decide, hb.1, hb.2⟩, rfl, heldNilZ _ _ _ _, R9, O9⟩)
    rw [HV.out]
    show (if 8 ≤ r.length then some (Val.mk 7 false (toI64 (numW (r.take 8))) E0 E0 [], r.drop 8) else none) = _
    rw [if_pos h8, ← HZ.out]
    rfl
  · have hm : ∀ W, Rz W R r false → Calls Tryz.prog 114 #[.pointer (some ⟨R, 0, none⟩), .int .i64 8] W fun e w' => e = .returned (.int .i64 0) ∧ Rz w' R r true ∧ Only R W w' := fun W hR => numBad R W 8 (by omega) r false (.inr (by omega)) hR hl2
    go_upto_region 28 with (first
      | (go_at_call 114; (with_reducible refine (hm _ R1).mono ?_); rintro e w3 ⟨rfl, R3, O3⟩; replace S := S.only O3 hBR; replace S2 := S2.only O3 hBR2; have c2 := S2.c2; have f2 := S2.free 2; have on3 := (Only.refl B w3).setCell 2 none (.int .i64 0); have R4 := R3.six S2 on3 hRB; replace S := S.only on3 hBne; replace O := (O.trans O3).new on3 (by omega); replace S2 := S2.set2 0; clear O3 R3 R1))
    have R1 := R4
    clear c2 f2 f0 R4
    go_wp2_with (first
      | ((with_reducible refine wpList_load6 (.tmp 5) B S2 ?_ ?_ ?_ ?_); rfl; rfl; rfl)
      | ((with_reducible refine wpList_store6 (k' := 7) (b' := false) (n' := 0) (t' := ⟨#[]⟩) (x' := ⟨#[]⟩) (p' := none) (len' := 0) (cap' := 0) (.tmp 4) (.tmp 100) w.heap.size S ?_ ?_ ?_ ?_ ?_); rfl; rfl; rfl; rfl; intro w9 on9 S9))
    have R9 := R1.six S on9 hRw
    have O9 := O.new on9 (Nat.le_refl _)
    refine bodyPost_ret (results_six1 (p := 4) Tryz.results71 _ rfl S9) rfl (.inl ⟨.inr ?_, ⟨_, _, _, _, _, _, _, _, rfl⟩, ⟨_, by omega, R9⟩, O9⟩)
    rw [HV.out]
    show (if 8 ≤ r.length then some (Val.mk 7 false (toI64 (numW (r.take 8))) E0 E0 [], r.drop 8) else none) = _
    rw [if_neg h8]

end Go.Proofs.YtoifjjgakblhhaaGreatDoor
