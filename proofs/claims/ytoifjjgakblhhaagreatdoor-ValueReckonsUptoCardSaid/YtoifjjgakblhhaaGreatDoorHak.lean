/- Texts of one kind, one behind the other: each says ahead of itself what it shows. -/
import Derived.Test.YtoifjjgakblhhaaGreatDoorHaj
import Derived.StillTailTactics
import Derived.Test.YtoifjjgakblhhaaGreatDoorHai
import Derived.BigGuardPart
import Derived.Deep.DeepCutAuto
/- Two numbers held against each other: compareNumbers. -/
namespace Go.Proofs.YtoifjjgakblhhaaGreatDoor
open Go.RowKit

theorem Six.range {w : World} {g : Nat} {k : Int} {b : Bool} {n : Int} {t x : ByteArray} {p : Option Addr} {len cap : Nat} (h : Six w g k b n t x p len cap) : w.rangeAt g 0 [.int .i64 k, .bool b, .int .i64 n, .string t, .string x, .slice p len cap] := by
  have := range6 (g := g) (off := 0) h.c0 h.c1 h.c2 h.c3 h.c4 h.c5
  exact this
theorem yields6 {ops : Array Oper} {S : World → Prop} {op : Oper} {a : Act} {k : Int} {b : Bool} {n : Int} {t x : ByteArray} {p : Option Addr} {len cap : Nat} (hw : Region.wanted op (yielded ops a.tmps) = true) (y : Operand) (ho : op.op = .load 28 y) (g : Nat) (hx : a.eval y = .pointer (some ⟨g, 0, none⟩))
    (hS : ∀ w, S w → Six w g k b n t x p len cap) : YieldsIf Tryz.prog ops S op (.agg #[.int .i64 k, .bool b, .int .i64 n, .string t, .string x, .slice p len cap]) a :=
  yieldsIf_load_mid hw 28 y ho g 0 hx [.int .i64 k, .bool b, .int .i64 n, .string t, .string x, .slice p len cap] _ (fun w h => (hS w h).range) Tryz.underlying28 rfl info28

theorem cmpSays {z z2 : Int} {s s2 : ByteArray} (h : Says z s) (h2 : Says z2 s2) (w : World) (hG : Gd w) :
    Calls Tryz.prog 91 #[.string s, .string s2] w fun e w' => e = .returned (.int .i64 (cmpZ z z2)) ∧ Below w.heap.size w w' := by
  have := cmpYes s s2 w hG h.2.2 h2.2.2 h.1 h2.1
  rwa [h.2.1, h2.2.1] at this

set_option maxRecDepth 20000 in
set_option maxHeartbeats 1600000 in
theorem cmpNumsAt (k : Int) (b : Bool) (n : Int) (t x : ByteArray) (p : Option Addr) (len cap : Nat) (k2 : Int) (b2 : Bool) (n2 : Int) (t2 x2 : ByteArray) (p2 : Option Addr) (len2 cap2 : Nat) (w : World) (hG : Gd w) (hT : Tab w) (hf : Fine n t x len) (hf2 : Fine n2 t2 x2 len2) :
    Calls Tryz.prog 52 #[.agg #[.int .i64 k, .bool b, .int .i64 n, .string t, .string x, .slice p len cap], .agg #[.int .i64 k2, .bool b2, .int .i64 n2, .string t2, .string x2, .slice p2 len2 cap2]] w fun e w' => e = .returned (.int .i64 (cmpZ (numV k n t) (numV k2 n2 t2))) ∧ Below w.heap.size w w' := by
  obtain ⟨W0, hW0⟩ : ∃ W0, W0 = (w.alloc (.cells #[.int .i64 k, .bool b, .int .i64 n, .string t, .string x, .slice p len cap] 28)).alloc (.cells #[.int .i64 k2, .bool b2, .int .i64 n2, .string t2, .string x2, .slice p2 len2 cap2] 28) := ⟨_, rfl⟩
  have l0 : Six W0 w.heap.size k b n t x p len cap := by rw [hW0]; exact (six_new _ rfl).alloc _
  have l1 : Six W0 (w.heap.size + 1) k2 b2 n2 t2 x2 p2 len2 cap2 := by rw [hW0]; exact six_new _ (by simp)
  have b0 : Below w.heap.size w W0 := by rw [hW0]; exact below2 _ _ _
  have hB := fun W => bothAreAt 2 k b n t x (.slice p len cap) k2 b2 n2 t2 x2 (.slice p2 len2 cap2) W
  have HF := Lib.hid (And.intro hf hf2)
  have H0 := Lib.hid hW0
  clear hf hf2 hW0
  cases hb : (k == 2 && k2 == 2) with
  | true =>
    rw [Bool.and_eq_true, beq_iff_eq, beq_iff_eq] at hb
    have e : cmpZ (numV k n t) (numV k2 n2 t2) = cmpZ n n2 := by unfold numV; rw [if_pos hb.1, if_pos hb.2, cmpZ_scale]
    have hbb : (k == 2 && k2 == 2) = true := by simp [hb.1, hb.2]
    rw [hbb] at hB
    have hc := fun W => cmpIntAt n n2 W
    rw [e]
    rw [show cmpZ n n2 = cmpZ n n2 from rfl]
    generalize cmpZ n n2 = r at hc ⊢
    clear hb hbb e
    go_enter Tryz.func52, Tryz.ntmps52
    go_wp2_with (first
      | (rw [← H0.out]; (with_reducible refine wpList_load6 (.tmp 2) w.heap.size l0 ?_ ?_ ?_ ?_); rfl; rfl; rfl)
      | ((with_reducible refine wpList_load6 (.tmp 3) (w.heap.size + 1) l1 ?_ ?_ ?_ ?_); rfl; rfl; rfl)
      | (go_at_call 53; (with_reducible refine (hB _).mono ?_); rintro e w1 ⟨rfl, hb1⟩; have d0 := (l0.below hb1).c2; have d1 := (l1.below hb1).c2; have b1 := below_any b0 hb1 b0.size)
      | (go_at_call 90; (with_reducible refine (hc _).mono ?_); rintro e w2 ⟨rfl, hb2⟩; replace b1 := below_any b1 hb2 b1.size))
    go_ret
    exact ⟨rfl, b1⟩
  | false =>
    rw [hb] at hB
    clear hb
    have hc1 := fun W hW hW2 => asDecimalAt k b n t x p len cap W hW hW2 HF.out.1
    have hc2 := fun W hW hW2 => asDecimalAt k2 b2 n2 t2 x2 p2 len2 cap2 W hW hW2 HF.out.2
    generalize numV k n t = z at hc1 ⊢
    generalize numV k2 n2 t2 = z2 at hc2 ⊢
    have HC1 := Lib.hid hc1
    have HC2 := Lib.hid hc2
    clear hc1 hc2
    go_enter Tryz.func52, Tryz.ntmps52
    go_wp2_with (first
      | (rw [← H0.out]; (with_reducible refine wpList_load6 (.tmp 2) w.heap.size l0 ?_ ?_ ?_ ?_); rfl; rfl; rfl)
      | ((with_reducible refine wpList_load6 (.tmp 3) (w.heap.size + 1) l1 ?_ ?_ ?_ ?_); rfl; rfl; rfl)
      | (go_at_call 53; (with_reducible refine (hB _).mono ?_); rintro e w1 ⟨rfl, hb1⟩; have d0 := l0.below hb1; have d1 := l1.below hb1; have b1 := below_any b0 hb1 b0.size))
    refine wp_region_held_drew (S := fun w' => Six w' w.heap.size k b n t x p len cap ∧ Six w' (w.heap.size + 1) k2 b2 n2 t2 x2 p2 len2 cap2 ∧ Below w.heap.size w w') (by kernel_rfl) ⟨d0, d1, b1.drew⟩ (fun hHeld => ?_)
    refine wpAnyH_take (i := 0) rfl (by kernel_rfl) (by kernel_rfl) (by kernel_rfl) (fun _ _ _ h => h) (yields6 (by rfl) (.tmp 2) rfl w.heap.size rfl (fun _ h => h.1)) hHeld ?_
    try simp only [Act.put, List.setIfInBounds_toArray, List.set_cons_zero, List.set_cons_succ]
    refine wpAnyH_take (i := 2) rfl (by kernel_rfl) (by kernel_rfl) (by kernel_rfl) (fun _ _ _ h => h) (yields6 (by rfl) (.tmp 3) rfl (w.heap.size + 1) rfl (fun _ h => h.2.1)) hHeld ?_
    try simp only [Act.put, List.setIfInBounds_toArray, List.set_cons_zero, List.set_cons_succ]
    obtain ⟨u1, u2, u3⟩ := hHeld
    refine wpAnyH_ready (rs := [1]) (by kernel_rfl) (by simp) ?_
    refine AllReadyH.cons rfl (fun K hK => ?_) AllReadyH.nil
    rw [if_pos (by rfl)]
    go_simp
    refine (HC1.out _ (hG.below u3) (hT.below u3)).mono ?_
    rintro e w3 ⟨s, rfl, hs, hb3⟩
    refine hK.out _ _ ⟨u1.below hb3, u2.below hb3, below_any u3 hb3 u3.size⟩ (fun hHeld => ?_)
    clear hK K u1 u2 u3 hb3
    try simp only [Act.put, List.getElem_toArray, List.getElem_cons_succ, List.getElem_cons_zero, List.setIfInBounds_toArray, List.set_cons_zero, List.set_cons_succ]
    obtain ⟨u1, u2, u3⟩ := hHeld
    refine wpAnyH_ready (rs := [3]) (by kernel_rfl) (by simp) ?_
    refine AllReadyH.cons rfl (fun K hK => ?_) AllReadyH.nil
    rw [if_pos (by rfl)]
    go_simp
    refine (HC2.out _ (hG.below u3) (hT.below u3)).mono ?_
    rintro e w4 ⟨s2, rfl, hs2, hb4⟩
    refine hK.out _ _ ⟨u1.below hb4, u2.below hb4, below_any u3 hb4 u3.size⟩ (fun hHeld => ?_)
    clear hK K u1 u2 u3 hb4
    try simp only [Act.put, List.getElem_toArray, List.getElem_cons_succ, List.getElem_cons_zero, List.setIfInBounds_toArray, List.set_cons_zero, List.set_cons_succ]
    obtain ⟨u1, u2, u3⟩ := hHeld
    refine wpAnyH_ready (rs := [4]) (by kernel_rfl) (by simp) ?_
    refine AllReadyH.cons rfl (fun K hK => ?_) AllReadyH.nil
    rw [if_pos (by rfl)]
    go_simp
    refine (cmpSays hs hs2 _ (hG.below u3)).mono ?_
    rintro e w5 ⟨rfl, hb5⟩
    refine hK.out _ _ ⟨u1.below hb5, u2.below hb5, below_any u3 hb5 u3.size⟩ (fun hHeld => ?_)
    clear hK K u1 u2 u3 hb5
    try simp only [Act.put, List.getElem_toArray, List.getElem_cons_succ, List.getElem_cons_zero, List.setIfInBounds_toArray, List.set_cons_zero, List.set_cons_succ]
    obtain ⟨u1, u2, u3⟩ := hHeld
    refine wpAnyH_ready (rs := [5]) (by kernel_rfl) (by simp) ?_
    refine AllReadyH.cons rfl (fun K hK => ?_) AllReadyH.nil
    go_simp
    refine hK.out _ _ ⟨u1, u2, u3⟩ (fun hHeld => ?_)
    clear hK K hHeld
    try simp only [Act.put, List.getElem_toArray, List.getElem_cons_succ, List.getElem_cons_zero, List.setIfInBounds_toArray, List.set_cons_zero, List.set_cons_succ]
    refine wpAnyH_done (by kernel_rfl) ?_ _
    go_wp2_with fail
    go_ret
    exact ⟨rfl, u3⟩
end Go.Proofs.YtoifjjgakblhhaaGreatDoor

/- A literal that may say the same as another value: isOpen. -/
namespace Go.Proofs.YtoifjjgakblhhaaGreatDoor
open Go.RowKit

def numB (k : Int) : Bool := k == 2 || k == 3
/-- Whether the first is a literal that may say the same as the second, though it isn't the same. -/
def openP (k k2 : Int) (same : Bool) : Bool := (k == 10) && (!same && (k2 == 10 || (k2 == 4 || (k2 == 1 || numB k2))))
theorem sameAtV (k : Int) (b : Bool) (n : Int) (t x : ByteArray) (q : List Val) (p : Option Addr) (cap : Nat) (k2 : Int) (b2 : Bool) (n2 : Int) (t2 x2 : ByteArray) (q2 : List Val) (p2 : Option Addr) (cap2 : Nat) (w : World) (hf : Fine n t x q.length) (hl : Held w (.slice p q.length cap) q) (hl2 : Held w (.slice p2 q2.length cap2) q2) :
    Calls Tryz.prog 17 #[.agg #[.int .i64 k, .bool b, .int .i64 n, .string t, .string x, .slice p q.length cap], .agg #[.int .i64 k2, .bool b2, .int .i64 n2, .string t2, .string x2, .slice p2 q2.length cap2]] w fun e w' => e = .returned (.bool (sameP (.mk k b n t x q) (.mk k2 b2 n2 t2 x2 q2))) ∧ Below w.heap.size w w' :=
  sameAll (.mk k b n t x q) w k b n t x q p cap (.mk k2 b2 n2 t2 x2 q2) k2 b2 n2 t2 x2 q2 p2 cap2 rfl rfl hf.hn hl hl2

set_option maxHeartbeats 1600000 in
theorem isOpenAt (k : Int) (b : Bool) (n : Int) (t x : ByteArray) (q : List Val) (p : Option Addr) (cap : Nat) (k2 : Int) (b2 : Bool) (n2 : Int) (t2 x2 : ByteArray) (q2 : List Val) (p2 : Option Addr) (cap2 : Nat) (w : World) (hf : Fine n t x q.length) (hl : Held w (.slice p q.length cap) q) (hl2 : Held w (.slice p2 q2.length cap2) q2) (r : Bool) (hr : r = sameP (.mk k b n t x q) (.mk k2 b2 n2 t2 x2 q2)) :
    Calls Tryz.prog 85 #[.agg #[.int .i64 k, .bool b, .int .i64 n, .string t, .string x, .slice p q.length cap], .agg #[.int .i64 k2, .bool b2, .int .i64 n2, .string t2, .string x2, .slice p2 q2.length cap2]] w fun e w' => e = .returned (.bool (openP k k2 r)) ∧ Below w.heap.size w w' := by
  obtain ⟨W0, hW0⟩ : ∃ W0, W0 = (w.alloc (.cells #[.int .i64 k, .bool b, .int .i64 n, .string t, .string x, .slice p q.length cap] 28)).alloc (.cells #[.int .i64 k2, .bool b2, .int .i64 n2, .string t2, .string x2, .slice p2 q2.length cap2] 28) := ⟨_, rfl⟩
  have S4 : Six W0 w.heap.size k b n t x p q.length cap := by rw [hW0]; exact (six_new _ rfl).alloc _
  have S5 : Six W0 (w.heap.size + 1) k2 b2 n2 t2 x2 p2 q2.length cap2 := by rw [hW0]; exact six_new _ (by simp)
  have b0 : Below w.heap.size w W0 := by rw [hW0]; exact below2 _ _ _
  have f0 := S4.c0
  have g0 := S5.c0
  have H0 := Lib.hid hW0
  have hs := sameAtV k b n t x q p cap k2 b2 n2 t2 x2 q2 p2 cap2 W0 hf (Held.below q hl b0) (Held.below q2 hl2 b0)
  have hnum := fun W => isNumberAt k2 b2 n2 t2 x2 (.slice p2 q2.length cap2) W
  rw [← hr] at hs
  clear hl hl2 hf hr hW0
  unfold openP
  cases e10 : (k == 10) with
  | false =>
    rw [Bool.false_and]
    have e10' : (k != 10) = true := by simp [bne, e10]
    go_enter Tryz.func85, Tryz.ntmps85
    go_wp2_with fail
    rw [← H0.out]
    go_wp2_with (first
      | ((with_reducible refine wpList_load6g (.tmp 2) w.heap.size S4 ?_ ?_ ?_ ?_); rfl; rfl; rfl)
      | ((with_reducible refine wpList_load6g (.tmp 3) (w.heap.size + 1) S5 ?_ ?_ ?_ ?_); rfl; rfl; rfl))
    go_ret
    exact ⟨rfl, b0⟩
  | true =>
    rw [Bool.true_and]
    have e10' : (k != 10) = false := by simp [bne, e10]
    cases r with
    | true =>
      rw [Bool.not_true, Bool.false_and]
      go_enter Tryz.func85, Tryz.ntmps85
      go_wp2_with fail
      rw [← H0.out]
      go_wp2_with (first
        | ((with_reducible refine wpList_load6g (.tmp 2) w.heap.size S4 ?_ ?_ ?_ ?_); rfl; rfl; rfl)
        | ((with_reducible refine wpList_load6g (.tmp 3) (w.heap.size + 1) S5 ?_ ?_ ?_ ?_); rfl; rfl; rfl)
        | (go_at_call 17; (with_reducible refine (hs).mono ?_); rintro e w' ⟨rfl, hb⟩; replace S4 := S4.below hb; replace S5 := S5.below hb; replace b0 := below_any b0 hb b0.size; have f5 := S4.c5; have g5 := S5.c5; have f00 := S4.c0; have g00 := S5.c0; clear hb))
      go_ret
      exact ⟨rfl, b0⟩
    | false =>
      rw [Bool.not_false, Bool.true_and]
      cases a1 : (k2 == 10) with
      | true =>
        rw [Bool.true_or]
        go_enter Tryz.func85, Tryz.ntmps85
        go_wp2_with fail
        rw [← H0.out]
        go_wp2_with (first
          | ((with_reducible refine wpList_load6g (.tmp 2) w.heap.size S4 ?_ ?_ ?_ ?_); rfl; rfl; rfl)
          | ((with_reducible refine wpList_load6g (.tmp 3) (w.heap.size + 1) S5 ?_ ?_ ?_ ?_); rfl; rfl; rfl)
          | (go_at_call 17; (with_reducible refine (hs).mono ?_); rintro e w' ⟨rfl, hb⟩; replace S4 := S4.below hb; replace S5 := S5.below hb; replace b0 := below_any b0 hb b0.size; have f5 := S4.c5; have g5 := S5.c5; have f00 := S4.c0; have g00 := S5.c0; clear hb))
        go_ret
        exact ⟨rfl, b0⟩
      | false =>
        rw [Bool.false_or]
        cases a2 : (k2 == 4) with
        | true =>
          rw [Bool.true_or]
          go_enter Tryz.func85, Tryz.ntmps85
          go_wp2_with fail
          rw [← H0.out]
          go_wp2_with (first
            | ((with_reducible refine wpList_load6g (.tmp 2) w.heap.size S4 ?_ ?_ ?_ ?_); rfl; rfl; rfl)
            | ((with_reducible refine wpList_load6g (.tmp 3) (w.heap.size + 1) S5 ?_ ?_ ?_ ?_); rfl; rfl; rfl)
            | (go_at_call 17; (with_reducible refine (hs).mono ?_); rintro e w' ⟨rfl, hb⟩; replace S4 := S4.below hb; replace S5 := S5.below hb; replace b0 := below_any b0 hb b0.size; have f5 := S4.c5; have g5 := S5.c5; have f00 := S4.c0; have g00 := S5.c0; clear hb))
          go_ret
          exact ⟨rfl, b0⟩
        | false =>
          rw [Bool.false_or]
          cases a3 : (k2 == 1) with
          | true =>
            rw [Bool.true_or]
            go_enter Tryz.func85, Tryz.ntmps85
            go_wp2_with fail
            rw [← H0.out]
            go_wp2_with (first
              | ((with_reducible refine wpList_load6g (.tmp 2) w.heap.size S4 ?_ ?_ ?_ ?_); rfl; rfl; rfl)
              | ((with_reducible refine wpList_load6g (.tmp 3) (w.heap.size + 1) S5 ?_ ?_ ?_ ?_); rfl; rfl; rfl)
              | (go_at_call 17; (with_reducible refine (hs).mono ?_); rintro e w' ⟨rfl, hb⟩; replace S4 := S4.below hb; replace S5 := S5.below hb; replace b0 := below_any b0 hb b0.size; have f5 := S4.c5; have g5 := S5.c5; have f00 := S4.c0; have g00 := S5.c0; clear hb))
            go_ret
            exact ⟨rfl, b0⟩
          | false =>
            rw [Bool.false_or]
            unfold numB
            generalize (k2 == 2 || k2 == 3) = nb at hnum ⊢
            go_enter Tryz.func85, Tryz.ntmps85
            go_wp2_with fail
            rw [← H0.out]
            go_wp2_with (first
              | ((with_reducible refine wpList_load6g (.tmp 2) w.heap.size S4 ?_ ?_ ?_ ?_); rfl; rfl; rfl)
              | ((with_reducible refine wpList_load6g (.tmp 3) (w.heap.size + 1) S5 ?_ ?_ ?_ ?_); rfl; rfl; rfl)
              | (go_at_call 17; (with_reducible refine (hs).mono ?_); rintro e w' ⟨rfl, hb⟩; replace S4 := S4.below hb; replace S5 := S5.below hb; replace b0 := below_any b0 hb b0.size; have f5 := S4.c5; have g5 := S5.c5; have f00 := S4.c0; have g00 := S5.c0; clear hb)
              | (go_at_call 50; (with_reducible refine (hnum _).mono ?_); rintro e w' ⟨rfl, hb⟩; replace S4 := S4.below hb; replace S5 := S5.below hb; replace b0 := below_any b0 hb b0.size; have f5 := S4.c5; have g5 := S5.c5; have f00 := S4.c0; have g00 := S5.c0; clear hb))
            go_ret
            exact ⟨rfl, b0⟩
end Go.Proofs.YtoifjjgakblhhaaGreatDoor

/- Whether two values are equal: what is asked; lists, one by one. -/
namespace Go.Proofs.YtoifjjgakblhhaaGreatDoor
open Go.RowKit

theorem Opens.below {w w' : World} {g off : Nat} {v : Val} {k : Int} {b : Bool} {n : Int} {t x : ByteArray} {q : List Val} {p : Option Addr} {cap : Nat} (o : Opens w g off v k b n t x q p cap) (h : Below w.heap.size w w') : Opens w' g off v k b n t x q p cap := by
  have hg := World.block_lt_of_cell? w _ o.c0
  exact ⟨o.e, (h.cell (p := ⟨g, off, none⟩) hg).trans o.c0, (h.cell (p := ⟨g, off + 1, none⟩) hg).trans o.c1, (h.cell (p := ⟨g, off + 2, none⟩) hg).trans o.c2, (h.cell (p := ⟨g, off + 3, none⟩) hg).trans o.c3,
    (h.cell (p := ⟨g, off + 4, none⟩) hg).trans o.c4, (h.cell (p := ⟨g, off + 5, none⟩) hg).trans o.c5, o.hf, Held.below q o.hl h⟩
theorem Opens.range {w : World} {g off : Nat} {v : Val} {k : Int} {b : Bool} {n : Int} {t x : ByteArray} {q : List Val} {p : Option Addr} {cap : Nat} (o : Opens w g off v k b n t x q p cap) : w.rangeAt g off [.int .i64 k, .bool b, .int .i64 n, .string t, .string x, .slice p q.length cap] :=
  range6 o.c0 o.c1 o.c2 o.c3 o.c4 o.c5
def tI (b : Bool) : Int := if b then 1 else 0
theorem truthT (b : Bool) (w : World) : Calls Tryz.prog 51 #[.bool b] w fun e w' => e = .returned (.int .i64 (tI b)) ∧ w' = w :=
  (truthOfAt b w).mono fun e w' ⟨h, h2⟩ => ⟨h, h2.symm⟩
def andE (a b : Int) : Int := if a = 0 ∨ b = 0 then 0 else if a = 2 ∨ b = 2 then 2 else 1
def graphB (k : Int) : Bool := k == 5 || k == 6 || k == 7
mutual
/-- The truth value of two values being equal. -/
def equalP (lang : Int) : Val → Val → Int
  | .mk k b n t x l, .mk k2 b2 n2 t2 x2 l2 =>
    if k = 0 ∨ k2 = 0 then 2
    else if numB k = true ∧ numB k2 = true then tI (cmpZ (numV k n t) (numV k2 n2 t2) == 0)
    else if lang = 1 ∧ (graphB k || (graphB k2 || (openP k k2 (sameP (.mk k b n t x l) (.mk k2 b2 n2 t2 x2 l2)) || openP k2 k (sameP (.mk k2 b2 n2 t2 x2 l2) (.mk k b n t x l))))) = true then 2
    else if k = 5 ∧ k2 = 5 then (if l.length = l2.length then eachEqual lang l l2 else 0)
    else tI (sameP (.mk k b n t x l) (.mk k2 b2 n2 t2 x2 l2))
def eachEqual (lang : Int) : List Val → List Val → Int
  | v :: r, v2 :: r2 => andE (equalP lang v v2) (eachEqual lang r r2)
  | _, _ => 1
end
def E3 (a : Int) : Prop := a = 0 ∨ a = 1 ∨ a = 2
theorem e3_tI (b : Bool) : E3 (tI b) := by cases b <;> simp [tI, E3]
theorem e3_and (a b : Int) : E3 (andE a b) := by unfold andE; split <;> (try split) <;> simp [E3]
theorem e3_each (lang : Int) (l l2 : List Val) : E3 (eachEqual lang l l2) := by
  cases l with
  | nil => unfold eachEqual; exact .inr (.inl rfl)
  | cons v r =>
    cases l2 with
    | nil => unfold eachEqual; exact .inr (.inl rfl)
    | cons v2 r2 => unfold eachEqual; exact e3_and _ _
theorem e3_equal (lang : Int) (v v2 : Val) : E3 (equalP lang v v2) := by
  cases v with
  | mk k b n t x l =>
    cases v2 with
    | mk k2 b2 n2 t2 x2 l2 =>
      unfold equalP
      split
      · exact .inr (.inr rfl)
      · split
        · exact e3_tI _
        · split
          · exact .inr (.inr rfl)
          · split
            · split
              · exact e3_each _ _ _
              · exact .inl rfl
            · exact e3_tI _
theorem andE_assoc {a b c : Int} (h : E3 a) (g : E3 b) (k : E3 c) : andE (andE a b) c = andE a (andE b c) := by
  rcases h with rfl | rfl | rfl <;> rcases g with rfl | rfl | rfl <;> rcases k with rfl | rfl | rfl <;> decide
theorem andE_one {a : Int} (h : E3 a) : andE 1 a = a ∧ andE a 1 = a ∧ andE a 0 = 0 ∧ andE 0 a = 0 := by rcases h with rfl | rfl | rfl <;> decide
theorem each_drop (lang : Int) (l l2 : List Val) (j : Nat) (h : j < l.length) (h2 : j < l2.length) : eachEqual lang (l.drop j) (l2.drop j) = andE (equalP lang l[j] l2[j]) (eachEqual lang (l.drop (j + 1)) (l2.drop (j + 1))) := by
  rw [List.drop_eq_getElem_cons h, List.drop_eq_getElem_cons h2, eachEqual]
theorem each_end (lang : Int) (l l2 : List Val) (j : Nat) (h : l.length ≤ j) : eachEqual lang (l.drop j) (l2.drop j) = 1 := by
  rw [List.drop_eq_nil_of_le h]
  unfold eachEqual
  rfl

/-- equal's contract at a value. -/
def EqualAt (lang : Int) (v : Val) : Prop := ∀ (w : World) (k : Int) (b : Bool) (n : Int) (t x : ByteArray) (q : List Val) (p : Option Addr) (cap : Nat) (k2 : Int) (b2 : Bool) (n2 : Int) (t2 x2 : ByteArray) (q2 : List Val) (p2 : Option Addr) (cap2 : Nat) (v2 : Val), v = .mk k b n t x q → v2 = .mk k2 b2 n2 t2 x2 q2 →
  Gd w → Tab w → Fine n t x q.length → Fine n2 t2 x2 q2.length → Held w (.slice p q.length cap) q → Held w (.slice p2 q2.length cap2) q2 →
  Calls Tryz.prog 44 #[.int .i64 lang, .agg #[.int .i64 k, .bool b, .int .i64 n, .string t, .string x, .slice p q.length cap], .agg #[.int .i64 k2, .bool b2, .int .i64 n2, .string t2, .string x2, .slice p2 q2.length cap2]] w fun e w' => e = .returned (.int .i64 (equalP lang v v2)) ∧ Below w.heap.size w w'

theorem eqListsLen (lang : Int) (p p2 : Option Addr) (n n2 cap cap2 : Nat) (w : World) (h : ¬ n = n2) :
    Calls Tryz.prog 86 #[.int .i64 lang, .slice p n cap, .slice p2 n2 cap2] w fun e w' => e = .returned (.int .i64 0) ∧ Below w.heap.size w w' := by
  have h1 : ((n : Int) != n2) = true := by simp; omega
  clear h
  go_enter Tryz.func86, Tryz.ntmps86
  go_wp2_with fail
  go_ret
  exact ⟨rfl, Below.refl _ _⟩
theorem eqListsNone (lang : Int) (p p2 : Option Addr) (cap cap2 : Nat) (w : World) :
    Calls Tryz.prog 86 #[.int .i64 lang, .slice p 0 cap, .slice p2 0 cap2] w fun e w' => e = .returned (.int .i64 1) ∧ Below w.heap.size w w' := by
  go_enter Tryz.func86, Tryz.ntmps86
  go_wp2_with fail
  go_loopw [7, 16] (fun s i wr => s = .int .i64 1 ∧ i = .int .i64 0 ∧ wr = w) (fun _ _ _ => 0)
  case atStart => exact ⟨rfl, rfl, rfl⟩
  case round =>
    obtain ⟨rfl, rfl, rfl⟩ := hrel
    go_wp2_with fail
    go_ret
    exact ⟨rfl, Below.refl _ _⟩

set_option maxHeartbeats 1600000 in
theorem eqListsSome (lang : Int) (l l2 : List Val) (g off cap g2 off2 cap2 : Nat) (w : World) (hG : Gd w) (hT : Tab w) (hl : Holds w g off l) (hl2 : Holds w g2 off2 l2) (hlen : l2.length = l.length) (hn : l.length ≤ 2097152) (each : ∀ v ∈ l, EqualAt lang v) :
    Calls Tryz.prog 86 #[.int .i64 lang, .slice (some ⟨g, off, none⟩) l.length cap, .slice (some ⟨g2, off2, none⟩) l.length cap2] w fun e w' => e = .returned (.int .i64 (eachEqual lang l l2)) ∧ Below w.heap.size w w' := by
  have HH := Lib.hid hl
  have HH2 := Lib.hid hl2
  have HE := Lib.hid each
  have HL := Lib.hid hlen
  clear hl hl2 each hlen
  go_enter Tryz.func86, Tryz.ntmps86
  go_wp2_with fail
  go_loopw [7, 16] (fun s i wr => ∃ (j : Nat) (a : Int), j ≤ l.length ∧ s = .int .i64 a ∧ i = .int .i64 j ∧ Below w.heap.size w wr ∧ Hid ((a = 1 ∨ a = 2) ∧ eachEqual lang l l2 = andE a (eachEqual lang (l.drop j) (l2.drop j)))) (fun _ i _ => l.length - (intOf i).toNat)
  case atStart => exact ⟨0, 1, Nat.zero_le _, rfl, rfl, Below.refl _ _, Lib.hid ⟨.inl rfl, by rw [List.drop_zero, List.drop_zero, (andE_one (e3_each _ _ _)).1]⟩⟩
  case round =>
    obtain ⟨j, a, hj, rfl, rfl, hb, HA⟩ := hrel
    by_cases hlt : j < l.length
    · have hlt2 : j < l2.length := by have := HL.out; omega
      obtain ⟨k, b, n, t, x, q, p, cp, o1⟩ := (Holds.at_ l off HH.out j hlt).opens
      obtain ⟨k2, b2, n2, t2, x2, q2, p2, cp2, o2⟩ := (Holds.at_ l2 off2 HH2.out j hlt2).opens
      have hc := fun W (hb : Below w.heap.size w W) => HE.out l[j] (List.getElem_mem hlt) W k b n t x q p cp k2 b2 n2 t2 x2 q2 p2 cp2 l2[j] o1.e o2.e (hG.below hb) (hT.below hb) o1.hf o2.hf (Held.below q o1.hl hb) (Held.below q2 o2.hl hb)
      obtain ⟨r, hr⟩ : ∃ r, r = equalP lang l[j] l2[j] := ⟨_, rfl⟩
      rw [← hr] at hc
      have R1 : ∀ w', Below w.heap.size w w' → w'.rangeAt g (off + j * 6) [.int .i64 k, .bool b, .int .i64 n, .string t, .string x, .slice p q.length cp] := fun w' h => (o1.below h).range
      have R2 : ∀ w', Below w.heap.size w w' → w'.rangeAt g2 (off2 + j * 6) [.int .i64 k2, .bool b2, .int .i64 n2, .string t2, .string x2, .slice p2 q2.length cp2] := fun w' h => (o2.below h).range
      have HC := Lib.hid hc
      have HR := Lib.hid hr
      have HR1 := Lib.hid R1
      have HR2 := Lib.hid R2
      have e3 : E3 r := by rw [hr]; exact e3_equal _ _ _
      clear o1 o2 hr hc R1 R2
      have hlti : (j : Int) < l.length := by omega
      go_wp2_with fail
      refine wp_region_held_drew (S := fun w' => Below w.heap.size w w') (by kernel_rfl) hb.drew (fun hHeld => ?_)
      refine wpAnyH_take (i := 0) (v := .int .i64 lang) rfl (by kernel_rfl) (by kernel_rfl) (by kernel_rfl) (fun _ _ _ h => h) (Or.inl ⟨by rfl, fun W _ => by go_simp⟩) hHeld ?_
      try simp only [Act.put, List.getElem_toArray, List.getElem_cons_succ, List.getElem_cons_zero, List.setIfInBounds_toArray, List.set_cons_zero, List.set_cons_succ]
      refine wpAnyH_take (i := 1) (v := .slice (some ⟨g, off, none⟩) l.length cap) rfl (by kernel_rfl) (by kernel_rfl) (by kernel_rfl) (fun _ _ _ h => h) (Or.inl ⟨by rfl, fun W _ => by go_simp⟩) hHeld ?_
      try simp only [Act.put, List.getElem_toArray, List.getElem_cons_succ, List.getElem_cons_zero, List.setIfInBounds_toArray, List.set_cons_zero, List.set_cons_succ]
      refine wpAnyH_take (i := 2) (v := .int .i64 j) rfl (by kernel_rfl) (by kernel_rfl) (by kernel_rfl) (fun _ _ _ h => h) (Or.inl ⟨by rfl, fun W _ => by go_simp⟩) hHeld ?_
      try simp only [Act.put, List.getElem_toArray, List.getElem_cons_succ, List.getElem_cons_zero, List.setIfInBounds_toArray, List.set_cons_zero, List.set_cons_succ]
      refine wpAnyH_take (i := 3) (v := .pointer (some ⟨g, off + j * 6, none⟩)) rfl (by kernel_rfl) (by kernel_rfl) (by kernel_rfl) (fun _ _ _ h => h) (Or.inl ⟨by rfl, fun W _ => by go_simp⟩) hHeld ?_
      try simp only [Act.put, List.getElem_toArray, List.getElem_cons_succ, List.getElem_cons_zero, List.setIfInBounds_toArray, List.set_cons_zero, List.set_cons_succ]
      refine wpAnyH_take (i := 4) rfl (by kernel_rfl) (by kernel_rfl) (by kernel_rfl) (fun _ _ _ h => h) (yieldsIf_load_mid (by rfl) 28 (.tmp 22) rfl g (off + j * 6) rfl _ _ (fun w h => HR1.out w h) Tryz.underlying28 rfl info28) hHeld ?_
      try simp only [Act.put, List.getElem_toArray, List.getElem_cons_succ, List.getElem_cons_zero, List.setIfInBounds_toArray, List.set_cons_zero, List.set_cons_succ]
      refine wpAnyH_take (i := 5) (v := .slice (some ⟨g2, off2, none⟩) l.length cap2) rfl (by kernel_rfl) (by kernel_rfl) (by kernel_rfl) (fun _ _ _ h => h) (Or.inl ⟨by rfl, fun W _ => by go_simp⟩) hHeld ?_
      try simp only [Act.put, List.getElem_toArray, List.getElem_cons_succ, List.getElem_cons_zero, List.setIfInBounds_toArray, List.set_cons_zero, List.set_cons_succ]
      refine wpAnyH_take (i := 6) (v := .int .i64 j) rfl (by kernel_rfl) (by kernel_rfl) (by kernel_rfl) (fun _ _ _ h => h) (Or.inl ⟨by rfl, fun W _ => by go_simp⟩) hHeld ?_
      try simp only [Act.put, List.getElem_toArray, List.getElem_cons_succ, List.getElem_cons_zero, List.setIfInBounds_toArray, List.set_cons_zero, List.set_cons_succ]
      refine wpAnyH_take (i := 7) (v := .pointer (some ⟨g2, off2 + j * 6, none⟩)) rfl (by kernel_rfl) (by kernel_rfl) (by kernel_rfl) (fun _ _ _ h => h) (Or.inl ⟨by rfl, fun W _ => by go_simp⟩) hHeld ?_
      try simp only [Act.put, List.getElem_toArray, List.getElem_cons_succ, List.getElem_cons_zero, List.setIfInBounds_toArray, List.set_cons_zero, List.set_cons_succ]
      refine wpAnyH_take (i := 8) rfl (by kernel_rfl) (by kernel_rfl) (by kernel_rfl) (fun _ _ _ h => h) (yieldsIf_load_mid (by rfl) 28 (.tmp 26) rfl g2 (off2 + j * 6) rfl _ _ (fun w h => HR2.out w h) Tryz.underlying28 rfl info28) hHeld ?_
      try simp only [Act.put, List.getElem_toArray, List.getElem_cons_succ, List.getElem_cons_zero, List.setIfInBounds_toArray, List.set_cons_zero, List.set_cons_succ]
      refine wpAnyH_ready (rs := [9]) (by kernel_rfl) (by simp) ?_
      refine AllReadyH.cons rfl (fun K hK => ?_) AllReadyH.nil
      rw [if_pos (by rfl)]
      go_simp
      refine (HC.out _ hHeld).mono ?_
      rintro e w3 ⟨rfl, hb3⟩
      refine hK.out _ _ (below_any hHeld hb3 hHeld.size) (fun hHeld2 => ?_)
      clear hK K hb3 hHeld
      try simp only [Act.put, List.getElem_toArray, List.getElem_cons_succ, List.getElem_cons_zero, List.setIfInBounds_toArray, List.set_cons_zero, List.set_cons_succ]
      refine wpAnyH_done (by kernel_rfl) ?_ _
      have hA2 := HA.out.2
      rw [each_drop lang l l2 j hlt hlt2, ← HR.out] at hA2
      have HA2 := Lib.hid (And.intro HA.out.1 hA2)
      clear HA hA2
      by_cases h0 : r = 0
      · subst h0
        go_wp2_with fail
        go_ret
        exact ⟨by rw [HA2.out.2, (andE_one (e3_each _ _ _)).2.2.2, (andE_one (by rcases HA2.out.1 with h | h <;> simp [h, E3])).2.2.1]; rfl, hHeld2⟩
      · by_cases h2 : r = 2
        · subst h2
          go_wp2_with fail
          go_roundw
          case rel =>
            refine ⟨j + 1, 2, by omega, rfl, by go_num, hHeld2, Lib.hid ⟨.inr rfl, ?_⟩⟩
            rw [HA2.out.2, ← andE_assoc (by rcases HA2.out.1 with h | h <;> simp [h, E3]) (by simp [E3]) (e3_each _ _ _)]
            congr 1
            rcases HA2.out.1 with h | h <;> rw [h] <;> rfl
          case measure => simp [intOf]; omega
        · obtain rfl : r = 1 := by rcases e3 with h | h | h <;> omega
          clear h0 h2
          go_wp2_with fail
          go_roundw
          case rel =>
            refine ⟨j + 1, a, by omega, rfl, by go_num, hHeld2, Lib.hid ⟨HA2.out.1, ?_⟩⟩
            rw [HA2.out.2, (andE_one (e3_each _ _ _)).1]
          case measure => simp [intOf]; omega
    · have hA2 := HA.out.2
      rw [each_end lang l l2 j (by omega), (andE_one (by rcases HA.out.1 with h | h <;> simp [h, E3])).2.1] at hA2
      have HA2 := Lib.hid hA2
      have hge : ¬ (j : Int) < l.length := by omega
      clear hA2 HA
      go_wp2_with fail
      go_ret
      exact ⟨by rw [HA2.out]; rfl, hb⟩

theorem eqListsAt (lang : Int) (l l2 : List Val) (p p2 : Option Addr) (cap cap2 : Nat) (w : World) (hG : Gd w) (hT : Tab w) (hl : Held w (.slice p l.length cap) l) (hl2 : Held w (.slice p2 l2.length cap2) l2) (hn : l.length ≤ 2097152) (each : ∀ v ∈ l, EqualAt lang v) :
    Calls Tryz.prog 86 #[.int .i64 lang, .slice p l.length cap, .slice p2 l2.length cap2] w fun e w' => e = .returned (.int .i64 (if l.length = l2.length then eachEqual lang l l2 else 0)) ∧ Below w.heap.size w w' := by
  by_cases h : l.length = l2.length
  · rw [if_pos h, ← h]
    cases l with
    | nil =>
      unfold eachEqual
      exact eqListsNone _ _ _ _ _ _
    | cons v r =>
      cases l2 with
      | nil => simp at h
      | cons v2 r2 =>
        obtain ⟨g, off, rfl, hh⟩ := hl.form
        obtain ⟨g2, off2, rfl, hh2⟩ := hl2.form
        exact eqListsSome lang (v :: r) (v2 :: r2) g off cap g2 off2 cap2 w hG hT hh hh2 h.symm hn each
  · rw [if_neg h]
    exact eqListsLen lang p p2 _ _ cap cap2 w h
end Go.Proofs.YtoifjjgakblhhaaGreatDoor

/- The document's own Same, for values in one another. -/
namespace Go.Proofs.YtoifjjgakblhhaaGreatDoor
open Go.RowKit

/-- The document's own Same's contract at a value. -/
def SameZ (v : Val) : Prop := ∀ (W : World) (k : Int) (b : Bool) (n : Int) (t x : ByteArray) (q : List Val) (p : Option Addr) (cap : Nat) (v2 : Val) (k2 : Int) (b2 : Bool) (n2 : Int) (t2 x2 : ByteArray) (q2 : List Val) (p2 : Option Addr) (cap2 : Nat),
  v = .mk k b n t x q → v2 = .mk k2 b2 n2 t2 x2 q2 → q.length ≤ 2097152 → Held W (.slice p q.length cap) q → Held W (.slice p2 q2.length cap2) q2 →
  Calls Tryz.prog 18 #[.agg #[.int .i64 k, .bool b, .int .i64 n, .string t, .string x, .slice p q.length cap], .agg #[.int .i64 k2, .bool b2, .int .i64 n2, .string t2, .string x2, .slice p2 q2.length cap2]] W
    fun e w' => e = .returned (.bool (sameP v v2)) ∧ Below W.heap.size W w'

theorem eqRowLen (p p2 : Option Addr) (n n2 cap cap2 : Nat) (w : World) (h : ¬ n = n2) :
    Calls Tryz.prog 34 #[.slice p n cap, .slice p2 n2 cap2] w fun e w' => e = .returned (.bool false) ∧ Below w.heap.size w w' := by
  have h1 : ((n : Int) != n2) = true := by simp; omega
  clear h
  go_enter Tryz.func34, Tryz.ntmps34
  go_wp2_with fail
  go_ret
  exact ⟨rfl, Below.refl _ _⟩
theorem eqRowNone (p p2 : Option Addr) (cap cap2 : Nat) (w : World) :
    Calls Tryz.prog 34 #[.slice p 0 cap, .slice p2 0 cap2] w fun e w' => e = .returned (.bool true) ∧ Below w.heap.size w w' := by
  go_enter Tryz.func34, Tryz.ntmps34
  go_wp2_with fail
  go_loopw [5] (fun i wr => i = .int .i64 0 ∧ wr = w) (fun _ _ => 0)
  case atStart => exact ⟨rfl, rfl⟩
  case round =>
    obtain ⟨rfl, rfl⟩ := hrel
    go_wp2_with fail
    go_ret
    exact ⟨rfl, Below.refl _ _⟩

set_option maxRecDepth 20000 in
set_option maxHeartbeats 3200000 in
theorem eqRowSome (l l2 : List Val) (g off cap g2 off2 cap2 : Nat) (w : World) (hl : Holds w g off l) (hl2 : Holds w g2 off2 l2) (hlen : l2.length = l.length) (hn : l.length ≤ 2097152) (each : ∀ v ∈ l, SameZ v) :
    Calls Tryz.prog 34 #[.slice (some ⟨g, off, none⟩) l.length cap, .slice (some ⟨g2, off2, none⟩) l.length cap2] w fun e w' => e = .returned (.bool (eachSame l l2)) ∧ Below w.heap.size w w' := by
  have HH := Lib.hid hl
  have HH2 := Lib.hid hl2
  have HE := Lib.hid each
  have HL := Lib.hid hlen
  clear hl hl2 each hlen
  go_enter Tryz.func34, Tryz.ntmps34
  go_wp2_with fail
  go_loopw [5] (fun i wr => ∃ j : Nat, j ≤ l.length ∧ i = .int .i64 j ∧ Below w.heap.size w wr ∧ ∀ (i : Nat) (h : i < l.length) (h2 : i < l2.length), i < j → sameP l[i] l2[i] = true) (fun i _ => l.length - (intOf i).toNat)
  case atStart => exact ⟨0, Nat.zero_le _, rfl, Below.refl _ _, fun _ _ _ h => absurd h (by omega)⟩
  case round =>
    obtain ⟨j, hj, rfl, hb, hall⟩ := hrel
    have HA := Lib.hid hall
    clear hall
    by_cases hlt : j < l.length
    · have hlt2 : j < l2.length := by have := HL.out; omega
      obtain ⟨k, b, n, t, x, q, p, cp, o1⟩ := (Holds.at_ l off HH.out j hlt).opens
      obtain ⟨k2, b2, n2, t2, x2, q2, p2, cp2, o2⟩ := (Holds.at_ l2 off2 HH2.out j hlt2).opens
      have hc := fun W (hb : Below w.heap.size w W) => HE.out l[j] (List.getElem_mem hlt) W k b n t x q p cp l2[j] k2 b2 n2 t2 x2 q2 p2 cp2 o1.e o2.e o1.hf.hn (Held.below q o1.hl hb) (Held.below q2 o2.hl hb)
      obtain ⟨r, hr⟩ : ∃ r, r = sameP l[j] l2[j] := ⟨_, rfl⟩
      rw [← hr] at hc
      have R1 : ∀ w', Below w.heap.size w w' → w'.rangeAt g (off + j * 6) [.int .i64 k, .bool b, .int .i64 n, .string t, .string x, .slice p q.length cp] := fun w' h => (o1.below h).range
      have R2 : ∀ w', Below w.heap.size w w' → w'.rangeAt g2 (off2 + j * 6) [.int .i64 k2, .bool b2, .int .i64 n2, .string t2, .string x2, .slice p2 q2.length cp2] := fun w' h => (o2.below h).range
      have HC := Lib.hid hc
      have HR := Lib.hid hr
      have HR1 := Lib.hid R1
      have HR2 := Lib.hid R2
      clear o1 o2 hr hc R1 R2
      have hlti : (j : Int) < l.length := by omega
      go_wp2_with fail
      refine wp_region_held_drew (S := fun w' => Below w.heap.size w w') (by kernel_rfl) hb.drew (fun hHeld => ?_)
      refine wpAnyH_take (i := 0) (v := .slice (some ⟨g, off, none⟩) l.length cap) rfl (by kernel_rfl) (by kernel_rfl) (by kernel_rfl) (fun _ _ _ h => h) (Or.inl ⟨by rfl, fun W _ => by go_simp⟩) hHeld ?_
      try simp only [Act.put, List.getElem_toArray, List.getElem_cons_succ, List.getElem_cons_zero, List.setIfInBounds_toArray, List.set_cons_zero, List.set_cons_succ]
      refine wpAnyH_take (i := 1) (v := .int .i64 j) rfl (by kernel_rfl) (by kernel_rfl) (by kernel_rfl) (fun _ _ _ h => h) (Or.inl ⟨by rfl, fun W _ => by go_simp⟩) hHeld ?_
      try simp only [Act.put, List.getElem_toArray, List.getElem_cons_succ, List.getElem_cons_zero, List.setIfInBounds_toArray, List.set_cons_zero, List.set_cons_succ]
      refine wpAnyH_take (i := 2) (v := .pointer (some ⟨g, off + j * 6, none⟩)) rfl (by kernel_rfl) (by kernel_rfl) (by kernel_rfl) (fun _ _ _ h => h) (Or.inl ⟨by rfl, fun W _ => by go_simp⟩) hHeld ?_
      try simp only [Act.put, List.getElem_toArray, List.getElem_cons_succ, List.getElem_cons_zero, List.setIfInBounds_toArray, List.set_cons_zero, List.set_cons_succ]
      refine wpAnyH_take (i := 3) rfl (by kernel_rfl) (by kernel_rfl) (by kernel_rfl) (fun _ _ _ h => h) (yieldsIf_load_mid (by rfl) 28 (.tmp 19) rfl g (off + j * 6) rfl _ _ (fun w h => HR1.out w h) Tryz.underlying28 rfl info28) hHeld ?_
      try simp only [Act.put, List.getElem_toArray, List.getElem_cons_succ, List.getElem_cons_zero, List.setIfInBounds_toArray, List.set_cons_zero, List.set_cons_succ]
      refine wpAnyH_take (i := 4) (v := .slice (some ⟨g2, off2, none⟩) l.length cap2) rfl (by kernel_rfl) (by kernel_rfl) (by kernel_rfl) (fun _ _ _ h => h) (Or.inl ⟨by rfl, fun W _ => by go_simp⟩) hHeld ?_
      try simp only [Act.put, List.getElem_toArray, List.getElem_cons_succ, List.getElem_cons_zero, List.setIfInBounds_toArray, List.set_cons_zero, List.set_cons_succ]
      refine wpAnyH_take (i := 5) (v := .int .i64 j) rfl (by kernel_rfl) (by kernel_rfl) (by kernel_rfl) (fun _ _ _ h => h) (Or.inl ⟨by rfl, fun W _ => by go_simp⟩) hHeld ?_
      try simp only [Act.put, List.getElem_toArray, List.getElem_cons_succ, List.getElem_cons_zero, List.setIfInBounds_toArray, List.set_cons_zero, List.set_cons_succ]
      refine wpAnyH_take (i := 6) (v := .pointer (some ⟨g2, off2 + j * 6, none⟩)) rfl (by kernel_rfl) (by kernel_rfl) (by kernel_rfl) (fun _ _ _ h => h) (Or.inl ⟨by rfl, fun W _ => by go_simp⟩) hHeld ?_
      try simp only [Act.put, List.getElem_toArray, List.getElem_cons_succ, List.getElem_cons_zero, List.setIfInBounds_toArray, List.set_cons_zero, List.set_cons_succ]
      refine wpAnyH_take (i := 7) rfl (by kernel_rfl) (by kernel_rfl) (by kernel_rfl) (fun _ _ _ h => h) (yieldsIf_load_mid (by rfl) 28 (.tmp 23) rfl g2 (off2 + j * 6) rfl _ _ (fun w h => HR2.out w h) Tryz.underlying28 rfl info28) hHeld ?_
      try simp only [Act.put, List.getElem_toArray, List.getElem_cons_succ, List.getElem_cons_zero, List.setIfInBounds_toArray, List.set_cons_zero, List.set_cons_succ]
      refine wpAnyH_ready (rs := [8]) (by kernel_rfl) (by simp) ?_
      refine AllReadyH.cons rfl (fun K hK => ?_) AllReadyH.nil
      rw [if_pos (by rfl)]
      go_simp
      refine (HC.out _ hHeld).mono ?_
      rintro e w3 ⟨rfl, hb3⟩
      refine hK.out _ _ (below_any hHeld hb3 hHeld.size) (fun hHeld2 => ?_)
      clear hK K hb3 hHeld
      try simp only [Act.put, List.getElem_toArray, List.getElem_cons_succ, List.getElem_cons_zero, List.setIfInBounds_toArray, List.set_cons_zero, List.set_cons_succ]
      refine wpAnyH_take (i := 9) (v := .bool (!r)) rfl (by kernel_rfl) (by kernel_rfl) (by kernel_rfl) (fun _ _ _ h => h) (Or.inl ⟨by rfl, fun W _ => by go_simp⟩) hHeld2 ?_
      try simp only [Act.put, List.getElem_toArray, List.getElem_cons_succ, List.getElem_cons_zero, List.setIfInBounds_toArray, List.set_cons_zero, List.set_cons_succ]
      refine wpAnyH_done (by kernel_rfl) ?_ _
      cases r with
      | true =>
        go_wp2_with fail
        go_roundw
        case rel =>
          refine ⟨j + 1, by omega, by go_num, hHeld2, fun i hi hi2 hlt' => ?_⟩
          by_cases e : i = j
          · subst e; exact HR.out.symm
          · exact HA.out i hi hi2 (by omega)
        case measure => simp [intOf]; omega
      | false =>
        go_wp2_with fail
        go_ret
        exact ⟨by rw [eachSame_no l l2 j hlt hlt2 HR.out.symm]; rfl, hHeld2⟩
    · go_wp2_with fail
      go_ret
      exact ⟨by rw [eachSame_yes l l2 fun i h h2 => HA.out i h h2 (by omega)]; rfl, hb⟩

theorem eqRowAt (l l2 : List Val) (p p2 : Option Addr) (cap cap2 : Nat) (w : World) (hl : Held w (.slice p l.length cap) l) (hl2 : Held w (.slice p2 l2.length cap2) l2) (hn : l.length ≤ 2097152) (each : ∀ v ∈ l, SameZ v) :
    Calls Tryz.prog 34 #[.slice p l.length cap, .slice p2 l2.length cap2] w fun e w' => e = .returned (.bool ((l.length == l2.length) && eachSame l l2)) ∧ Below w.heap.size w w' := by
  by_cases h : l.length = l2.length
  · rw [show (l.length == l2.length) = true by simpa using h, Bool.true_and, ← h]
    cases l with
    | nil =>
      unfold eachSame
      exact eqRowNone _ _ _ _ _
    | cons v r =>
      cases l2 with
      | nil => simp at h
      | cons v2 r2 =>
        obtain ⟨g, off, rfl, hh⟩ := hl.form
        obtain ⟨g2, off2, rfl, hh2⟩ := hl2.form
        exact eqRowSome (v :: r) (v2 :: r2) g off cap g2 off2 cap2 w hh hh2 h.symm hn each
  · rw [show (l.length == l2.length) = false by simpa using h, Bool.false_and]
    exact eqRowLen p p2 _ _ cap cap2 w h

set_option maxHeartbeats 1600000 in
theorem sameZ_step (v : Val) (k : Int) (b : Bool) (n : Int) (t x : ByteArray) (q : List Val) (ev : v = .mk k b n t x q) (each : ∀ u ∈ q, SameZ u) : SameZ v := by
  subst ev
  intro W k1 b1 n1 t1 x1 q1 p cap v2 k2 b2 n2 t2 x2 q2 p2 cap2 e1 e2 hn hl hl2
  cases e1
  subst e2
  unfold sameP
  obtain ⟨c1, hc1⟩ : ∃ c1, c1 = Obj.cells #[.int .i64 k, .bool b, .int .i64 n, .string t, .string x, .slice p q.length cap] 28 := ⟨_, rfl⟩
  obtain ⟨c2, hc2⟩ : ∃ c2, c2 = Obj.cells #[.int .i64 k2, .bool b2, .int .i64 n2, .string t2, .string x2, .slice p2 q2.length cap2] 28 := ⟨_, rfl⟩
  have b0 := below2 W c1 c2
  have hc := eqRowAt q q2 p p2 cap cap2 ((W.alloc c1).alloc c2) (Held.below q hl b0) (Held.below q2 hl2 b0) hn each
  have l0 : Six ((W.alloc c1).alloc c2) W.heap.size k b n t x p q.length cap := by rw [hc1]; exact (six_new _ rfl).alloc _
  have l1 : Six ((W.alloc c1).alloc c2) (W.heap.size + 1) k2 b2 n2 t2 x2 p2 q2.length cap2 := by rw [hc2]; exact six_new _ (by simp)
  have z0 := b0.size
  have f0 := l0.c0
  have f1 := l0.c1
  have f2 := l0.c2
  have f3 := l0.c3
  have f4 := l0.c4
  have f5 := l0.c5
  have g0 := l1.c0
  have g1 := l1.c1
  have g2 := l1.c2
  have g3 := l1.c3
  have g4 := l1.c4
  have g5 := l1.c5
  clear l0 l1 hl hl2 each hn
  subst hc1 hc2
  cases a0 : (k == k2) with
  | false =>
    rw [Bool.false_and]
    go_enter Tryz.func18, Tryz.ntmps18
    go_wp2_with fail
    go_ret
    exact ⟨rfl, b0⟩
  | true =>
    rw [Bool.true_and]
    cases a1 : (b == b2) with
    | false =>
      rw [Bool.false_and]
      go_enter Tryz.func18, Tryz.ntmps18
      go_wp2_with fail
      go_ret
      exact ⟨rfl, b0⟩
    | true =>
      rw [Bool.true_and]
      cases a2 : (n == n2) with
      | false =>
        rw [Bool.false_and]
        go_enter Tryz.func18, Tryz.ntmps18
        go_wp2_with fail
        go_ret
        exact ⟨rfl, b0⟩
      | true =>
        rw [Bool.true_and]
        cases a3 : (t.toList == t2.toList) with
        | false =>
          rw [Bool.false_and]
          go_enter Tryz.func18, Tryz.ntmps18
          go_wp2_with fail
          go_ret
          exact ⟨rfl, b0⟩
        | true =>
          rw [Bool.true_and]
          cases a4 : (x.toList == x2.toList) with
          | false =>
            rw [Bool.false_and]
            go_enter Tryz.func18, Tryz.ntmps18
            go_wp2_with fail
            go_ret
            exact ⟨rfl, b0⟩
          | true =>
            rw [Bool.true_and]
            generalize (q.length == q2.length && eachSame q q2) = r at hc ⊢
            go_enter Tryz.func18, Tryz.ntmps18
            go_wp2_with (go_at_call 34; (with_reducible refine hc.mono ?_); rintro e w3 ⟨rfl, hb3⟩; replace b0 := below_any b0 hb3 z0)
            go_ret
            exact ⟨rfl, b0⟩

mutual
theorem sameZAll : (v : Val) → SameZ v
  | .mk k b n t x q => sameZ_step _ k b n t x q rfl (sameZEach q)
theorem sameZEach : (q : List Val) → ∀ u ∈ q, SameZ u
  | [], _, h => absurd h (by simp)
  | v :: r, u, h => by
    rcases List.mem_cons.1 h with h | h
    · rw [h]; exact sameZAll v
    · exact sameZEach r u h
end
end Go.Proofs.YtoifjjgakblhhaaGreatDoor

/- Equality goes both ways; what is the same is equal. No Go stands here. -/
namespace Go.Proofs.YtoifjjgakblhhaaGreatDoor

mutual
theorem sameP_refl : (v : Val) → sameP v v = true
  | .mk k b n t x l => by
    unfold sameP
    rw [eachSame_refl l]
    simp
theorem eachSame_refl : (l : List Val) → eachSame l l = true
  | [] => by unfold eachSame; rfl
  | v :: r => by
    unfold eachSame
    rw [sameP_refl v, eachSame_refl r]
    rfl
end
end Go.Proofs.YtoifjjgakblhhaaGreatDoor

/- Less of two values, and how it goes with equality. No Go stands here. -/
namespace Go.Proofs.YtoifjjgakblhhaaGreatDoor

end Go.Proofs.YtoifjjgakblhhaaGreatDoor

/- The order of all values: what it is, and that it is one. No Go stands here. -/
namespace Go.Proofs.YtoifjjgakblhhaaGreatDoor


end Go.Proofs.YtoifjjgakblhhaaGreatDoor

/- The document's own answer: signs, ranks, whether a value is a number, truths. -/
namespace Go.Proofs.YtoifjjgakblhhaaGreatDoor
open Go.RowKit

set_option maxHeartbeats 1600000 in
theorem refNumberAt (k : Int) (b : Bool) (n : Int) (t x : ByteArray) (p : Option Addr) (len cap : Nat) (w : World) :
    Calls Tryz.prog 45 #[.agg #[.int .i64 k, .bool b, .int .i64 n, .string t, .string x, .slice p len cap]] w fun e w' => e = .returned (.bool (k == 2 || k == 3)) ∧ Below w.heap.size w w' := by
  have S := six_new (k := k) (b := b) (n := n) (t := t) (x := x) (p := p) (len := len) (cap := cap) w rfl
  have b0 := below1 w (.cells #[.int .i64 k, .bool b, .int .i64 n, .string t, .string x, .slice p len cap] 28)
  have f0 := S.c0
  cases h2 : (k == 2) with
  | true =>
    go_enter Tryz.func45, Tryz.ntmps45
    go_wp2_with fail
    go_ret
    exact ⟨rfl, b0⟩
  | false =>
    go_enter Tryz.func45, Tryz.ntmps45
    go_wp2_with fail
    go_ret
    exact ⟨rfl, b0⟩
end Go.Proofs.YtoifjjgakblhhaaGreatDoor

/- wakes: a sum and a quotient. -/
namespace Go.Proofs.YtoifjjgakblhhaaGreatDoor
open Go.RowKit

end Go.Proofs.YtoifjjgakblhhaaGreatDoor

/- What a law of texts keeps from call to call. -/
namespace Go.Proofs.YtoifjjgakblhhaaGreatDoor
open Go.RowKit

/-- The strings of the argument, in memory. -/
def Strs (w : World) (b off n : Nat) (S : Nat → ByteArray) : Prop := ∀ i, i < n → w.cell? ⟨b, off + i, none⟩ = some (.string (S i))
theorem Strs.below {w w' : World} {b off n : Nat} {S : Nat → ByteArray} (h : Strs w b off n S) (k : Below w.heap.size w w') : Strs w' b off n S := fun i hi =>
  (k.cell (p := ⟨b, off + i, none⟩) (World.block_lt_of_cell? w _ (h i hi))).trans (h i hi)

/-- What holds at every call of a law's round. -/
structure Inv (w : World) (b off n cap : Nat) (S : Nat → ByteArray) (wr : World) : Prop where
  cell : wr.cell? ⟨w.heap.size, 0, none⟩ = some (.slice (some ⟨b, off, none⟩) n cap)
  lt : w.heap.size < wr.heap.size
  bel : Below w.heap.size w wr
  g : Gd wr
  t : Tab wr
  s : Strs wr b off n S
theorem Inv.step {w wr w' : World} {b off n cap : Nat} {S : Nat → ByteArray} (h : Inv w b off n cap S wr) (k : Below wr.heap.size wr w') : Inv w b off n cap S w' :=
  ⟨(k.cell (p := ⟨w.heap.size, 0, none⟩) h.lt).trans h.cell, Nat.lt_of_lt_of_le h.lt k.size, below_any h.bel k (Nat.le_of_lt h.lt), h.g.below k, h.t.below k, h.s.below k⟩
theorem Inv.start {w : World} {b off n cap : Nat} {S : Nat → ByteArray} (v2 : Value) (hG : Gd w) (hT : Tab w) (hS : Strs w b off n S) :
    Inv w b off n cap S (w.alloc (.cells #[.slice (some ⟨b, off, none⟩) n cap, v2] 25)) := by
  have hb0 : Below w.heap.size w (w.alloc (.cells #[.slice (some ⟨b, off, none⟩) n cap, v2] 25)) := (Below.refl _ _).alloc (Nat.le_refl _) _
  exact ⟨cell_of (heap_new _ _ rfl) _ rfl, by simp, hb0, hG.below hb0, hT.below hb0, hS.below hb0⟩
end Go.Proofs.YtoifjjgakblhhaaGreatDoor
