/- Two numbers held against each other: compareNumbers. -/
import Derived.Test.YtoifjjgakblhhaaDoorQ3m
namespace Go.Proofs.YtoifjjgakblhhaaDoor
open Go.RowKit

theorem Six.range {w : World} {g : Nat} {k : Int} {b : Bool} {n : Int} {t x : ByteArray} {p : Option Addr} {len cap : Nat} (h : Six w g k b n t x p len cap) : w.rangeAt g 0 [.int .i64 k, .bool b, .int .i64 n, .string t, .string x, .slice p len cap] := by
  have := range6 (g := g) (off := 0) h.c0 h.c1 h.c2 h.c3 h.c4 h.c5
  exact this
theorem yields6 {ops : Array Oper} {S : World → Prop} {op : Oper} {a : Act} {k : Int} {b : Bool} {n : Int} {t x : ByteArray} {p : Option Addr} {len cap : Nat} (hw : Region.wanted op (yielded ops a.tmps) = true) (y : Operand) (ho : op.op = .load 28 y) (g : Nat) (hx : a.eval y = .pointer (some ⟨g, 0, none⟩))
    (hS : ∀ w, S w → Six w g k b n t x p len cap) : YieldsIf Tryd.prog ops S op (.agg #[.int .i64 k, .bool b, .int .i64 n, .string t, .string x, .slice p len cap]) a :=
  yieldsIf_load_mid hw 28 y ho g 0 hx [.int .i64 k, .bool b, .int .i64 n, .string t, .string x, .slice p len cap] _ (fun w h => (hS w h).range) Tryd.underlying28 rfl info28

theorem cmpSays {z z2 : Int} {s s2 : ByteArray} (h : Says z s) (h2 : Says z2 s2) (w : World) (hG : Gd w) :
    Calls Tryd.prog 27 #[.string s, .string s2] w fun e w' => e = .returned (.int .i64 (cmpZ z z2)) ∧ Below w.heap.size w w' := by
  have := cmpYes s s2 w hG h.2.2 h2.2.2 h.1 h2.1
  rwa [h.2.1, h2.2.1] at this

set_option maxRecDepth 20000 in
set_option maxHeartbeats 1600000 in
theorem cmpNumsAt (k : Int) (b : Bool) (n : Int) (t x : ByteArray) (p : Option Addr) (len cap : Nat) (k2 : Int) (b2 : Bool) (n2 : Int) (t2 x2 : ByteArray) (p2 : Option Addr) (len2 cap2 : Nat) (w : World) (hG : Gd w) (hT : Tab w) (hf : Fine n t x len) (hf2 : Fine n2 t2 x2 len2) :
    Calls Tryd.prog 17 #[.agg #[.int .i64 k, .bool b, .int .i64 n, .string t, .string x, .slice p len cap], .agg #[.int .i64 k2, .bool b2, .int .i64 n2, .string t2, .string x2, .slice p2 len2 cap2]] w fun e w' => e = .returned (.int .i64 (cmpZ (numV k n t) (numV k2 n2 t2))) ∧ Below w.heap.size w w' := by
  obtain ⟨W0, hW0⟩ : ∃ W0, W0 = (w.alloc (.cells #[.int .i64 k, .bool b, .int .i64 n, .string t, .string x, .slice p len cap] 28)).alloc (.cells #[.int .i64 k2, .bool b2, .int .i64 n2, .string t2, .string x2, .slice p2 len2 cap2] 28) := ⟨_, rfl⟩
  have l0 : Six W0 w.heap.size k b n t x p len cap := by rw [hW0]; exact (six_new _ rfl).alloc _
  have l1 : Six W0 (w.heap.size + 1) k2 b2 n2 t2 x2 p2 len2 cap2 := by rw [hW0]; exact six_new _ (by simp)
  have b0 : Below w.heap.size w W0 := by rw [hW0]; exact below2 _ _ _
  have hB := fun W => bothAreAt 2 k b n t x (.slice p len cap) k2 b2 n2 t2 x2 (.slice p2 len2 cap2) W
  have HF := Lib.hid (And.intro hf hf2)
  have H0 := Lib.hid hW0
  clear hf hf2 hW0
  cases hb : (k == 2 && k2 == 2) with
  | true =>
    rw [Bool.and_eq_true, beq_iff_eq, beq_iff_eq] at hb
    have e : cmpZ (numV k n t) (numV k2 n2 t2) = cmpZ n n2 := by unfold numV; rw [if_pos hb.1, if_pos hb.2, cmpZ_scale]
    have hbb : (k == 2 && k2 == 2) = true := by simp [hb.1, hb.2]
    rw [hbb] at hB
    have hc := fun W => cmpIntAt n n2 W
    rw [e]
    rw [show cmpZ n n2 = cmpZ n n2 from rfl]
    generalize cmpZ n n2 = r at hc ⊢
    clear hb hbb e
    go_enter Tryd.func17, Tryd.ntmps17
    go_wp2_with (first
      | (rw [← H0.out]; (with_reducible refine wpList_load6 (.tmp 2) w.heap.size l0 ?_ ?_ ?_ ?_); rfl; rfl; rfl)
      | ((with_reducible refine wpList_load6 (.tmp 3) (w.heap.size + 1) l1 ?_ ?_ ?_ ?_); rfl; rfl; rfl)
      | (go_at_call 18; (with_reducible refine (hB _).mono ?_); rintro e w1 ⟨rfl, hb1⟩; have d0 := (l0.below hb1).c2; have d1 := (l1.below hb1).c2; have b1 := below_any b0 hb1 b0.size)
      | (go_at_call 26; (with_reducible refine (hc _).mono ?_); rintro e w2 ⟨rfl, hb2⟩; replace b1 := below_any b1 hb2 b1.size))
    go_ret
    exact ⟨rfl, b1⟩
  | false =>
    rw [hb] at hB
    clear hb
    have hc1 := fun W hW hW2 => asDecimalAt k b n t x p len cap W hW hW2 HF.out.1
    have hc2 := fun W hW hW2 => asDecimalAt k2 b2 n2 t2 x2 p2 len2 cap2 W hW hW2 HF.out.2
    generalize numV k n t = z at hc1 ⊢
    generalize numV k2 n2 t2 = z2 at hc2 ⊢
    have HC1 := Lib.hid hc1
    have HC2 := Lib.hid hc2
    clear hc1 hc2
    go_enter Tryd.func17, Tryd.ntmps17
    go_wp2_with (first
      | (rw [← H0.out]; (with_reducible refine wpList_load6 (.tmp 2) w.heap.size l0 ?_ ?_ ?_ ?_); rfl; rfl; rfl)
      | ((with_reducible refine wpList_load6 (.tmp 3) (w.heap.size + 1) l1 ?_ ?_ ?_ ?_); rfl; rfl; rfl)
      | (go_at_call 18; (with_reducible refine (hB _).mono ?_); rintro e w1 ⟨rfl, hb1⟩; have d0 := l0.below hb1; have d1 := l1.below hb1; have b1 := below_any b0 hb1 b0.size))
    refine wp_region_held_drew (S := fun w' => Six w' w.heap.size k b n t x p len cap ∧ Six w' (w.heap.size + 1) k2 b2 n2 t2 x2 p2 len2 cap2 ∧ Below w.heap.size w w') (by kernel_rfl) ⟨d0, d1, b1.drew⟩ (fun hHeld => ?_)
    refine wpAnyH_take (i := 0) rfl (by kernel_rfl) (by kernel_rfl) (by kernel_rfl) (fun _ _ _ h => h) (yields6 (by rfl) (.tmp 2) rfl w.heap.size rfl (fun _ h => h.1)) hHeld ?_
    try simp only [Act.put, List.setIfInBounds_toArray, List.set_cons_zero, List.set_cons_succ]
    refine wpAnyH_take (i := 2) rfl (by kernel_rfl) (by kernel_rfl) (by kernel_rfl) (fun _ _ _ h => h) (yields6 (by rfl) (.tmp 3) rfl (w.heap.size + 1) rfl (fun _ h => h.2.1)) hHeld ?_
    try simp only [Act.put, List.setIfInBounds_toArray, List.set_cons_zero, List.set_cons_succ]
    obtain ⟨u1, u2, u3⟩ := hHeld
    refine wpAnyH_ready (rs := [1]) (by kernel_rfl) (by simp) ?_
    refine AllReadyH.cons rfl (fun K hK => ?_) AllReadyH.nil
    rw [if_pos (by rfl)]
    go_simp
    refine (HC1.out _ (hG.below u3) (hT.below u3)).mono ?_
    rintro e w3 ⟨s, rfl, hs, hb3⟩
    refine hK.out _ _ ⟨u1.below hb3, u2.below hb3, below_any u3 hb3 u3.size⟩ (fun hHeld => ?_)
    clear hK K u1 u2 u3 hb3
    try simp only [Act.put, List.getElem_toArray, List.getElem_cons_succ, List.getElem_cons_zero, List.setIfInBounds_toArray, List.set_cons_zero, List.set_cons_succ]
    obtain ⟨u1, u2, u3⟩ := hHeld
    refine wpAnyH_ready (rs := [3]) (by kernel_rfl) (by simp) ?_
    refine AllReadyH.cons rfl (fun K hK => ?_) AllReadyH.nil
    rw [if_pos (by rfl)]
    go_simp
    refine (HC2.out _ (hG.below u3) (hT.below u3)).mono ?_
    rintro e w4 ⟨s2, rfl, hs2, hb4⟩
    refine hK.out _ _ ⟨u1.below hb4, u2.below hb4, below_any u3 hb4 u3.size⟩ (fun hHeld => ?_)
    clear hK K u1 u2 u3 hb4
    try simp only [Act.put, List.getElem_toArray, List.getElem_cons_succ, List.getElem_cons_zero, List.setIfInBounds_toArray, List.set_cons_zero, List.set_cons_succ]
    obtain ⟨u1, u2, u3⟩ := hHeld
    refine wpAnyH_ready (rs := [4]) (by kernel_rfl) (by simp) ?_
    refine AllReadyH.cons rfl (fun K hK => ?_) AllReadyH.nil
    rw [if_pos (by rfl)]
    go_simp
    refine (cmpSays hs hs2 _ (hG.below u3)).mono ?_
    rintro e w5 ⟨rfl, hb5⟩
    refine hK.out _ _ ⟨u1.below hb5, u2.below hb5, below_any u3 hb5 u3.size⟩ (fun hHeld => ?_)
    clear hK K u1 u2 u3 hb5
    try simp only [Act.put, List.getElem_toArray, List.getElem_cons_succ, List.getElem_cons_zero, List.setIfInBounds_toArray, List.set_cons_zero, List.set_cons_succ]
    obtain ⟨u1, u2, u3⟩ := hHeld
    refine wpAnyH_ready (rs := [5]) (by kernel_rfl) (by simp) ?_
    refine AllReadyH.cons rfl (fun K hK => ?_) AllReadyH.nil
    go_simp
    refine hK.out _ _ ⟨u1, u2, u3⟩ (fun hHeld => ?_)
    clear hK K hHeld
    try simp only [Act.put, List.getElem_toArray, List.getElem_cons_succ, List.getElem_cons_zero, List.setIfInBounds_toArray, List.set_cons_zero, List.set_cons_succ]
    refine wpAnyH_done (by kernel_rfl) ?_ _
    go_wp2_with fail
    go_ret
    exact ⟨rfl, u3⟩
end Go.Proofs.YtoifjjgakblhhaaDoor
