/- Texts of one kind, one behind the other: each says ahead of itself what it shows. -/
import Derived.Test.YtoifjjgakblhhaaGreatDoorHan
import Derived.Test.YtoifjjgakblhhaaGreatDoorHar
import Derived.Test.YtoifjjgakblhhaaGreatDoorHai
import Derived.Test.YtoifjjgakblhhaaGreatDoorHaj
import Derived.Test.YtoifjjgakblhhaaGreatDoorHab
/- The document's own Less. -/
namespace Go.Proofs.YtoifjjgakblhhaaGreatDoor
open Go.RowKit

set_option maxRecDepth 20000 in
set_option maxHeartbeats 12800000 in
theorem refLess (k : Int) (b : Bool) (n : Int) (t x : ByteArray) (q : List Val) (p : Option Addr) (cap : Nat) (k2 : Int) (b2 : Bool) (n2 : Int) (t2 x2 : ByteArray) (q2 : List Val) (p2 : Option Addr) (cap2 : Nat) (w : World) (hf : Fine n t x q.length) (hf2 : Fine n2 t2 x2 q2.length) (hl : Held w (.slice p q.length cap) q) (hl2 : Held w (.slice p2 q2.length cap2) q2) :
    Calls Tryz.prog 22 #[.agg #[.int .i64 k, .bool b, .int .i64 n, .string t, .string x, .slice p q.length cap], .agg #[.int .i64 k2, .bool b2, .int .i64 n2, .string t2, .string x2, .slice p2 q2.length cap2]] w fun e w' => e = .returned (.int .i64 (lessTop (.mk k b n t x q) (.mk k2 b2 n2 t2 x2 q2))) ∧ Below w.heap.size w w' := by
  obtain ⟨W0, hW0⟩ : ∃ W0, W0 = (w.alloc (.cells #[.int .i64 k, .bool b, .int .i64 n, .string t, .string x, .slice p q.length cap] 28)).alloc (.cells #[.int .i64 k2, .bool b2, .int .i64 n2, .string t2, .string x2, .slice p2 q2.length cap2] 28) := ⟨_, rfl⟩
  have S4 : Six W0 w.heap.size k b n t x p q.length cap := by rw [hW0]; exact (six_new _ rfl).alloc _
  have S5 : Six W0 (w.heap.size + 1) k2 b2 n2 t2 x2 p2 q2.length cap2 := by rw [hW0]; exact six_new _ (by simp)
  have b0 : Below w.heap.size w W0 := by rw [hW0]; exact below2 _ _ _
  have hm1 := fun W (h : Below w.heap.size w W) => refMay k b n t x q p cap W hf (Held.below q hl h)
  have hm2 := fun W (h : Below w.heap.size w W) => refMay k2 b2 n2 t2 x2 q2 p2 cap2 W hf2 (Held.below q2 hl2 h)
  have hn1 := fun W => refNumberAt k b n t x p q.length cap W
  have hn2 := fun W => refNumberAt k2 b2 n2 t2 x2 p2 q2.length cap2 W
  have HD1 := Lib.hid (fun W => refDecAt k b n t x p q.length cap W hf)
  have HD2 := Lib.hid (fun W => refDecAt k2 b2 n2 t2 x2 p2 q2.length cap2 W hf2)
  have f0 := S4.c0
  have g0 := S5.c0
  have f1 := S4.c1
  have g1 := S5.c1
  have f3 := S4.c3
  have g3 := S5.c3
  have H0 := Lib.hid hW0
  clear hf hf2 hl hl2 hW0
  unfold lessTop
  cases m1 : mayP (.mk k b n t x q) 0 with
  | false =>
    rw [m1] at hm1
    rw [Bool.false_and, if_neg (by simp)]
    go_enter Tryz.func22, Tryz.ntmps22
    go_wp2_with (first
      | ((try rw [← H0.out]); (with_reducible refine wpList_load6 (.tmp 2) w.heap.size S4 ?_ ?_ ?_ ?_); rfl; rfl; rfl)
      | ((try rw [← H0.out]); (with_reducible refine wpList_load6g (.tmp 2) w.heap.size S4 ?_ ?_ ?_ ?_); rfl; rfl; rfl)
      | ((try rw [← H0.out]); (with_reducible refine wpList_load6 (.tmp 3) (w.heap.size + 1) S5 ?_ ?_ ?_ ?_); rfl; rfl; rfl)
      | ((try rw [← H0.out]); (with_reducible refine wpList_load6g (.tmp 3) (w.heap.size + 1) S5 ?_ ?_ ?_ ?_); rfl; rfl; rfl)
      | (go_at_call 14; (with_reducible refine (hm1 _ b0).mono ?_); rintro e w' ⟨rfl, hb⟩; replace S4 := S4.below hb; replace S5 := S5.below hb; replace b0 := below_any b0 hb b0.size; have f0 := S4.c0; have g0 := S5.c0; have f1 := S4.c1; have g1 := S5.c1; have f3 := S4.c3; have g3 := S5.c3; clear hb)
      | (go_at_call 14; (with_reducible refine (hm2 _ b0).mono ?_); rintro e w' ⟨rfl, hb⟩; replace S4 := S4.below hb; replace S5 := S5.below hb; replace b0 := below_any b0 hb b0.size; have f0 := S4.c0; have g0 := S5.c0; have f1 := S4.c1; have g1 := S5.c1; have f3 := S4.c3; have g3 := S5.c3; clear hb)
      | (go_at_call 45; (with_reducible refine (hn1 _).mono ?_); rintro e w' ⟨rfl, hb⟩; replace S4 := S4.below hb; replace S5 := S5.below hb; replace b0 := below_any b0 hb b0.size; have f0 := S4.c0; have g0 := S5.c0; have f1 := S4.c1; have g1 := S5.c1; have f3 := S4.c3; have g3 := S5.c3; clear hb)
      | (go_at_call 45; (with_reducible refine (hn2 _).mono ?_); rintro e w' ⟨rfl, hb⟩; replace S4 := S4.below hb; replace S5 := S5.below hb; replace b0 := below_any b0 hb b0.size; have f0 := S4.c0; have g0 := S5.c0; have f1 := S4.c1; have g1 := S5.c1; have f3 := S4.c3; have g3 := S5.c3; clear hb)
      | (go_at_call 46; (with_reducible refine (refTruthAt _ _).mono ?_); rintro e w' ⟨rfl, rfl⟩))
    go_ret
    exact ⟨rfl, b0⟩
  | true =>
    rw [m1] at hm1
    rw [Bool.true_and]
    cases m2 : mayP (.mk k2 b2 n2 t2 x2 q2) 0 with
    | false =>
      rw [m2] at hm2
      rw [if_neg (by simp)]
      go_enter Tryz.func22, Tryz.ntmps22
      go_wp2_with (first
        | ((try rw [← H0.out]); (with_reducible refine wpList_load6 (.tmp 2) w.heap.size S4 ?_ ?_ ?_ ?_); rfl; rfl; rfl)
        | ((try rw [← H0.out]); (with_reducible refine wpList_load6g (.tmp 2) w.heap.size S4 ?_ ?_ ?_ ?_); rfl; rfl; rfl)
        | ((try rw [← H0.out]); (with_reducible refine wpList_load6 (.tmp 3) (w.heap.size + 1) S5 ?_ ?_ ?_ ?_); rfl; rfl; rfl)
        | ((try rw [← H0.out]); (with_reducible refine wpList_load6g (.tmp 3) (w.heap.size + 1) S5 ?_ ?_ ?_ ?_); rfl; rfl; rfl)
        | (go_at_call 14; (with_reducible refine (hm1 _ b0).mono ?_); rintro e w' ⟨rfl, hb⟩; replace S4 := S4.below hb; replace S5 := S5.below hb; replace b0 := below_any b0 hb b0.size; have f0 := S4.c0; have g0 := S5.c0; have f1 := S4.c1; have g1 := S5.c1; have f3 := S4.c3; have g3 := S5.c3; clear hb)
        | (go_at_call 14; (with_reducible refine (hm2 _ b0).mono ?_); rintro e w' ⟨rfl, hb⟩; replace S4 := S4.below hb; replace S5 := S5.below hb; replace b0 := below_any b0 hb b0.size; have f0 := S4.c0; have g0 := S5.c0; have f1 := S4.c1; have g1 := S5.c1; have f3 := S4.c3; have g3 := S5.c3; clear hb)
        | (go_at_call 45; (with_reducible refine (hn1 _).mono ?_); rintro e w' ⟨rfl, hb⟩; replace S4 := S4.below hb; replace S5 := S5.below hb; replace b0 := below_any b0 hb b0.size; have f0 := S4.c0; have g0 := S5.c0; have f1 := S4.c1; have g1 := S5.c1; have f3 := S4.c3; have g3 := S5.c3; clear hb)
        | (go_at_call 45; (with_reducible refine (hn2 _).mono ?_); rintro e w' ⟨rfl, hb⟩; replace S4 := S4.below hb; replace S5 := S5.below hb; replace b0 := below_any b0 hb b0.size; have f0 := S4.c0; have g0 := S5.c0; have f1 := S4.c1; have g1 := S5.c1; have f3 := S4.c3; have g3 := S5.c3; clear hb)
        | (go_at_call 46; (with_reducible refine (refTruthAt _ _).mono ?_); rintro e w' ⟨rfl, rfl⟩))
      go_ret
      exact ⟨rfl, b0⟩
    | true =>
      rw [m2] at hm2
      rw [if_pos rfl, lessP_mk]
      clear m1 m2
      by_cases hnn : numB k = true ∧ numB k2 = true
      · rw [if_pos hnn]
        rw [show (k == 2 || k == 3) = numB k from rfl, hnn.1] at hn1
        rw [show (k2 == 2 || k2 == 3) = numB k2 from rfl, hnn.2] at hn2
        have HCMP : Hid (∀ (s s2 : ByteArray), SaysR (numV k n t) s → SaysR (numV k2 n2 t2) s2 → ∀ W, Calls Tryz.prog 47 #[.string s, .string s2] W fun e w' => e = .returned (.int .i64 (cmpZ (numV k n t) (numV k2 n2 t2))) ∧ Below W.heap.size W w') := Lib.hid fun s s2 h h2 W => refCmpSays h h2 W
        clear hnn
        obtain ⟨c, hc⟩ : ∃ c, c = cmpZ (numV k n t) (numV k2 n2 t2) := ⟨_, rfl⟩
        rw [← hc] at HCMP ⊢
        clear hc
        · skip
          go_enter Tryz.func22, Tryz.ntmps22
          go_upto_region 4 with (first
            | ((try rw [← H0.out]); (with_reducible refine wpList_load6 (.tmp 2) w.heap.size S4 ?_ ?_ ?_ ?_); rfl; rfl; rfl)
            | ((try rw [← H0.out]); (with_reducible refine wpList_load6g (.tmp 2) w.heap.size S4 ?_ ?_ ?_ ?_); rfl; rfl; rfl)
            | ((try rw [← H0.out]); (with_reducible refine wpList_load6 (.tmp 3) (w.heap.size + 1) S5 ?_ ?_ ?_ ?_); rfl; rfl; rfl)
            | ((try rw [← H0.out]); (with_reducible refine wpList_load6g (.tmp 3) (w.heap.size + 1) S5 ?_ ?_ ?_ ?_); rfl; rfl; rfl)
            | (go_at_call 14; (with_reducible refine (hm1 _ b0).mono ?_); rintro e w' ⟨rfl, hb⟩; replace S4 := S4.below hb; replace S5 := S5.below hb; replace b0 := below_any b0 hb b0.size; have f0 := S4.c0; have g0 := S5.c0; have f1 := S4.c1; have g1 := S5.c1; have f3 := S4.c3; have g3 := S5.c3; clear hb)
            | (go_at_call 14; (with_reducible refine (hm2 _ b0).mono ?_); rintro e w' ⟨rfl, hb⟩; replace S4 := S4.below hb; replace S5 := S5.below hb; replace b0 := below_any b0 hb b0.size; have f0 := S4.c0; have g0 := S5.c0; have f1 := S4.c1; have g1 := S5.c1; have f3 := S4.c3; have g3 := S5.c3; clear hb)
            | (go_at_call 45; (with_reducible refine (hn1 _).mono ?_); rintro e w' ⟨rfl, hb⟩; replace S4 := S4.below hb; replace S5 := S5.below hb; replace b0 := below_any b0 hb b0.size; have f0 := S4.c0; have g0 := S5.c0; have f1 := S4.c1; have g1 := S5.c1; have f3 := S4.c3; have g3 := S5.c3; clear hb)
            | (go_at_call 45; (with_reducible refine (hn2 _).mono ?_); rintro e w' ⟨rfl, hb⟩; replace S4 := S4.below hb; replace S5 := S5.below hb; replace b0 := below_any b0 hb b0.size; have f0 := S4.c0; have g0 := S5.c0; have f1 := S4.c1; have g1 := S5.c1; have f3 := S4.c3; have g3 := S5.c3; clear hb)
            | (go_at_call 46; (with_reducible refine (refTruthAt _ _).mono ?_); rintro e w' ⟨rfl, rfl⟩))
          clear f0 g0 f1 g1 f3 g3
          refine wp_region_held_drew (S := fun w' => Six w' w.heap.size k b n t x p q.length cap ∧ Six w' (w.heap.size + 1) k2 b2 n2 t2 x2 p2 q2.length cap2 ∧ Below w.heap.size w w') (by kernel_rfl) ⟨S4, S5, b0.drew⟩ (fun hHeld => ?_)
          refine wpAnyH_take (i := 0) rfl (by kernel_rfl) (by kernel_rfl) (by kernel_rfl) (fun _ _ _ h => h) (yields6 (by rfl) (.tmp 2) rfl w.heap.size rfl (fun _ h => h.1)) hHeld ?_
          try simp only [Act.put, List.getElem_toArray, List.getElem_cons_succ, List.getElem_cons_zero, List.setIfInBounds_toArray, List.set_cons_zero, List.set_cons_succ]
          refine wpAnyH_take (i := 2) rfl (by kernel_rfl) (by kernel_rfl) (by kernel_rfl) (fun _ _ _ h => h) (yields6 (by rfl) (.tmp 3) rfl (w.heap.size + 1) rfl (fun _ h => h.2.1)) hHeld ?_
          try simp only [Act.put, List.getElem_toArray, List.getElem_cons_succ, List.getElem_cons_zero, List.setIfInBounds_toArray, List.set_cons_zero, List.set_cons_succ]
          obtain ⟨u1, u2, u3⟩ := hHeld
          refine wpAnyH_ready (rs := [1]) (by kernel_rfl) (by simp) ?_
          refine AllReadyH.cons rfl (fun K hK => ?_) AllReadyH.nil
          rw [if_pos (by rfl)]
          go_simp
          refine (HD1.out _).mono ?_
          rintro e w3 ⟨s1, rfl, hs1, hb⟩
          refine hK.out _ _ ⟨u1.below hb, u2.below hb, below_any u3 hb u3.size⟩ (fun hHeld => ?_)
          clear hK K u1 u2 u3
          try simp only [Act.put, List.getElem_toArray, List.getElem_cons_succ, List.getElem_cons_zero, List.setIfInBounds_toArray, List.set_cons_zero, List.set_cons_succ]
          have HS1 := Lib.hid hs1
          clear hs1 hb
          obtain ⟨u1, u2, u3⟩ := hHeld
          refine wpAnyH_ready (rs := [3]) (by kernel_rfl) (by simp) ?_
          refine AllReadyH.cons rfl (fun K hK => ?_) AllReadyH.nil
          rw [if_pos (by rfl)]
          go_simp
          refine (HD2.out _).mono ?_
          rintro e w3 ⟨s2, rfl, hs2, hb⟩
          refine hK.out _ _ ⟨u1.below hb, u2.below hb, below_any u3 hb u3.size⟩ (fun hHeld => ?_)
          clear hK K u1 u2 u3
          try simp only [Act.put, List.getElem_toArray, List.getElem_cons_succ, List.getElem_cons_zero, List.setIfInBounds_toArray, List.set_cons_zero, List.set_cons_succ]
          have HS2 := Lib.hid hs2
          clear hs2 hb
          obtain ⟨u1, u2, u3⟩ := hHeld
          refine wpAnyH_ready (rs := [4]) (by kernel_rfl) (by simp) ?_
          refine AllReadyH.cons rfl (fun K hK => ?_) AllReadyH.nil
          rw [if_pos (by rfl)]
          go_simp
          refine (HCMP.out _ _ HS1.out HS2.out _).mono ?_
          rintro e w3 ⟨rfl, hb⟩
          refine hK.out _ _ ⟨u1.below hb, u2.below hb, below_any u3 hb u3.size⟩ (fun hHeld => ?_)
          clear hK K u1 u2 u3
          try simp only [Act.put, List.getElem_toArray, List.getElem_cons_succ, List.getElem_cons_zero, List.setIfInBounds_toArray, List.set_cons_zero, List.set_cons_succ]
          clear hb
          refine wpAnyH_take (i := 5) (v := .bool (decide (c < 0))) rfl (by kernel_rfl) (by kernel_rfl) (by kernel_rfl) (fun _ _ _ h => h) (Or.inl ⟨by rfl, fun W _ => by go_simp⟩) hHeld ?_
          try simp only [Act.put, List.getElem_toArray, List.getElem_cons_succ, List.getElem_cons_zero, List.setIfInBounds_toArray, List.set_cons_zero, List.set_cons_succ]
          obtain ⟨u1, u2, u3⟩ := hHeld
          refine wpAnyH_ready (rs := [6]) (by kernel_rfl) (by simp) ?_
          refine AllReadyH.cons rfl (fun K hK => ?_) AllReadyH.nil
          rw [if_pos (by rfl)]
          go_simp
          refine (refTruthAt _ _).mono ?_
          rintro e w3 ⟨rfl, rfl⟩
          refine hK.out _ _ ⟨u1, u2, u3⟩ (fun hHeld => ?_)
          clear hK K u1 u2 u3
          try simp only [Act.put, List.getElem_toArray, List.getElem_cons_succ, List.getElem_cons_zero, List.setIfInBounds_toArray, List.set_cons_zero, List.set_cons_succ]
          refine wpAnyH_take (i := 7) (v := .int .i64 (tI (decide (c < 0)))) rfl (by kernel_rfl) (by kernel_rfl) (by kernel_rfl) (fun _ _ _ h => h) (Or.inl ⟨by rfl, fun W _ => by go_simp⟩) hHeld ?_
          try simp only [Act.put, List.getElem_toArray, List.getElem_cons_succ, List.getElem_cons_zero, List.setIfInBounds_toArray, List.set_cons_zero, List.set_cons_succ]
          refine wpAnyH_done (by kernel_rfl) ?_ _
          go_wp2_with fail
          go_ret
          exact ⟨rfl, hHeld.2.2⟩
      · rw [if_neg hnn]
        cases n1 : numB k with
        | true =>
          have n2' : numB k2 = false := by
            cases h : numB k2 with
            | false => rfl
            | true => exact absurd ⟨n1, h⟩ hnn
          rw [show (k == 2 || k == 3) = numB k from rfl, n1] at hn1
          rw [show (k2 == 2 || k2 == 3) = numB k2 from rfl, n2'] at hn2
          have k4 : ¬ k = 4 := by rintro rfl; cases n1
          have k1 : ¬ k = 1 := by rintro rfl; cases n1
          rw [if_neg (fun h => k4 h.1), if_neg (fun h => k1 h.1)]
          have e4 : (k == 4) = false := by simpa using k4
          have e1 : (k == 1) = false := by simpa using k1
          clear k4 k1 hnn HD1 HD2
          go_enter Tryz.func22, Tryz.ntmps22
          go_wp2_with (first
            | ((try rw [← H0.out]); (with_reducible refine wpList_load6 (.tmp 2) w.heap.size S4 ?_ ?_ ?_ ?_); rfl; rfl; rfl)
            | ((try rw [← H0.out]); (with_reducible refine wpList_load6g (.tmp 2) w.heap.size S4 ?_ ?_ ?_ ?_); rfl; rfl; rfl)
            | ((try rw [← H0.out]); (with_reducible refine wpList_load6 (.tmp 3) (w.heap.size + 1) S5 ?_ ?_ ?_ ?_); rfl; rfl; rfl)
            | ((try rw [← H0.out]); (with_reducible refine wpList_load6g (.tmp 3) (w.heap.size + 1) S5 ?_ ?_ ?_ ?_); rfl; rfl; rfl)
            | (go_at_call 14; (with_reducible refine (hm1 _ b0).mono ?_); rintro e w' ⟨rfl, hb⟩; replace S4 := S4.below hb; replace S5 := S5.below hb; replace b0 := below_any b0 hb b0.size; have f0 := S4.c0; have g0 := S5.c0; have f1 := S4.c1; have g1 := S5.c1; have f3 := S4.c3; have g3 := S5.c3; clear hb)
            | (go_at_call 14; (with_reducible refine (hm2 _ b0).mono ?_); rintro e w' ⟨rfl, hb⟩; replace S4 := S4.below hb; replace S5 := S5.below hb; replace b0 := below_any b0 hb b0.size; have f0 := S4.c0; have g0 := S5.c0; have f1 := S4.c1; have g1 := S5.c1; have f3 := S4.c3; have g3 := S5.c3; clear hb)
            | (go_at_call 45; (with_reducible refine (hn1 _).mono ?_); rintro e w' ⟨rfl, hb⟩; replace S4 := S4.below hb; replace S5 := S5.below hb; replace b0 := below_any b0 hb b0.size; have f0 := S4.c0; have g0 := S5.c0; have f1 := S4.c1; have g1 := S5.c1; have f3 := S4.c3; have g3 := S5.c3; clear hb)
            | (go_at_call 45; (with_reducible refine (hn2 _).mono ?_); rintro e w' ⟨rfl, hb⟩; replace S4 := S4.below hb; replace S5 := S5.below hb; replace b0 := below_any b0 hb b0.size; have f0 := S4.c0; have g0 := S5.c0; have f1 := S4.c1; have g1 := S5.c1; have f3 := S4.c3; have g3 := S5.c3; clear hb)
            | (go_at_call 46; (with_reducible refine (refTruthAt _ _).mono ?_); rintro e w' ⟨rfl, rfl⟩))
          go_ret
          exact ⟨rfl, b0⟩
        | false =>
          rw [show (k == 2 || k == 3) = numB k from rfl, n1] at hn1
          clear hnn HD1 HD2 hn2
          by_cases e4 : k = 4 ∧ k2 = 4
          · rw [if_pos e4]
            obtain ⟨rfl, rfl⟩ := e4
            go_enter Tryz.func22, Tryz.ntmps22
            go_wp2_with (first
              | ((try rw [← H0.out]); (with_reducible refine wpList_load6 (.tmp 2) w.heap.size S4 ?_ ?_ ?_ ?_); rfl; rfl; rfl)
              | ((try rw [← H0.out]); (with_reducible refine wpList_load6g (.tmp 2) w.heap.size S4 ?_ ?_ ?_ ?_); rfl; rfl; rfl)
              | ((try rw [← H0.out]); (with_reducible refine wpList_load6 (.tmp 3) (w.heap.size + 1) S5 ?_ ?_ ?_ ?_); rfl; rfl; rfl)
              | ((try rw [← H0.out]); (with_reducible refine wpList_load6g (.tmp 3) (w.heap.size + 1) S5 ?_ ?_ ?_ ?_); rfl; rfl; rfl)
              | (go_at_call 14; (with_reducible refine (hm1 _ b0).mono ?_); rintro e w' ⟨rfl, hb⟩; replace S4 := S4.below hb; replace S5 := S5.below hb; replace b0 := below_any b0 hb b0.size; have f0 := S4.c0; have g0 := S5.c0; have f1 := S4.c1; have g1 := S5.c1; have f3 := S4.c3; have g3 := S5.c3; clear hb)
              | (go_at_call 14; (with_reducible refine (hm2 _ b0).mono ?_); rintro e w' ⟨rfl, hb⟩; replace S4 := S4.below hb; replace S5 := S5.below hb; replace b0 := below_any b0 hb b0.size; have f0 := S4.c0; have g0 := S5.c0; have f1 := S4.c1; have g1 := S5.c1; have f3 := S4.c3; have g3 := S5.c3; clear hb)
              | (go_at_call 45; (with_reducible refine (hn1 _).mono ?_); rintro e w' ⟨rfl, hb⟩; replace S4 := S4.below hb; replace S5 := S5.below hb; replace b0 := below_any b0 hb b0.size; have f0 := S4.c0; have g0 := S5.c0; have f1 := S4.c1; have g1 := S5.c1; have f3 := S4.c3; have g3 := S5.c3; clear hb)
              | (go_at_call 45; (with_reducible refine (hn2 _).mono ?_); rintro e w' ⟨rfl, hb⟩; replace S4 := S4.below hb; replace S5 := S5.below hb; replace b0 := below_any b0 hb b0.size; have f0 := S4.c0; have g0 := S5.c0; have f1 := S4.c1; have g1 := S5.c1; have f3 := S4.c3; have g3 := S5.c3; clear hb)
              | (go_at_call 46; (with_reducible refine (refTruthAt _ _).mono ?_); rintro e w' ⟨rfl, rfl⟩))
            go_ret
            exact ⟨rfl, b0⟩
          · rw [if_neg e4]
            by_cases e1 : k = 1 ∧ k2 = 1
            · rw [if_pos e1]
              obtain ⟨rfl, rfl⟩ := e1
              cases b
              · rw [show (!false && b2) = b2 from rfl]
                go_enter Tryz.func22, Tryz.ntmps22
                go_wp2_with (first
                  | ((try rw [← H0.out]); (with_reducible refine wpList_load6 (.tmp 2) w.heap.size S4 ?_ ?_ ?_ ?_); rfl; rfl; rfl)
                  | ((try rw [← H0.out]); (with_reducible refine wpList_load6g (.tmp 2) w.heap.size S4 ?_ ?_ ?_ ?_); rfl; rfl; rfl)
                  | ((try rw [← H0.out]); (with_reducible refine wpList_load6 (.tmp 3) (w.heap.size + 1) S5 ?_ ?_ ?_ ?_); rfl; rfl; rfl)
                  | ((try rw [← H0.out]); (with_reducible refine wpList_load6g (.tmp 3) (w.heap.size + 1) S5 ?_ ?_ ?_ ?_); rfl; rfl; rfl)
                  | (go_at_call 14; (with_reducible refine (hm1 _ b0).mono ?_); rintro e w' ⟨rfl, hb⟩; replace S4 := S4.below hb; replace S5 := S5.below hb; replace b0 := below_any b0 hb b0.size; have f0 := S4.c0; have g0 := S5.c0; have f1 := S4.c1; have g1 := S5.c1; have f3 := S4.c3; have g3 := S5.c3; clear hb)
                  | (go_at_call 14; (with_reducible refine (hm2 _ b0).mono ?_); rintro e w' ⟨rfl, hb⟩; replace S4 := S4.below hb; replace S5 := S5.below hb; replace b0 := below_any b0 hb b0.size; have f0 := S4.c0; have g0 := S5.c0; have f1 := S4.c1; have g1 := S5.c1; have f3 := S4.c3; have g3 := S5.c3; clear hb)
                  | (go_at_call 45; (with_reducible refine (hn1 _).mono ?_); rintro e w' ⟨rfl, hb⟩; replace S4 := S4.below hb; replace S5 := S5.below hb; replace b0 := below_any b0 hb b0.size; have f0 := S4.c0; have g0 := S5.c0; have f1 := S4.c1; have g1 := S5.c1; have f3 := S4.c3; have g3 := S5.c3; clear hb)
                  | (go_at_call 45; (with_reducible refine (hn2 _).mono ?_); rintro e w' ⟨rfl, hb⟩; replace S4 := S4.below hb; replace S5 := S5.below hb; replace b0 := below_any b0 hb b0.size; have f0 := S4.c0; have g0 := S5.c0; have f1 := S4.c1; have g1 := S5.c1; have f3 := S4.c3; have g3 := S5.c3; clear hb)
                  | (go_at_call 46; (with_reducible refine (refTruthAt _ _).mono ?_); rintro e w' ⟨rfl, rfl⟩))
                go_ret
                exact ⟨rfl, b0⟩
              · rw [show (!true && b2) = false from rfl]
                go_enter Tryz.func22, Tryz.ntmps22
                go_wp2_with (first
                  | ((try rw [← H0.out]); (with_reducible refine wpList_load6 (.tmp 2) w.heap.size S4 ?_ ?_ ?_ ?_); rfl; rfl; rfl)
                  | ((try rw [← H0.out]); (with_reducible refine wpList_load6g (.tmp 2) w.heap.size S4 ?_ ?_ ?_ ?_); rfl; rfl; rfl)
                  | ((try rw [← H0.out]); (with_reducible refine wpList_load6 (.tmp 3) (w.heap.size + 1) S5 ?_ ?_ ?_ ?_); rfl; rfl; rfl)
                  | ((try rw [← H0.out]); (with_reducible refine wpList_load6g (.tmp 3) (w.heap.size + 1) S5 ?_ ?_ ?_ ?_); rfl; rfl; rfl)
                  | (go_at_call 14; (with_reducible refine (hm1 _ b0).mono ?_); rintro e w' ⟨rfl, hb⟩; replace S4 := S4.below hb; replace S5 := S5.below hb; replace b0 := below_any b0 hb b0.size; have f0 := S4.c0; have g0 := S5.c0; have f1 := S4.c1; have g1 := S5.c1; have f3 := S4.c3; have g3 := S5.c3; clear hb)
                  | (go_at_call 14; (with_reducible refine (hm2 _ b0).mono ?_); rintro e w' ⟨rfl, hb⟩; replace S4 := S4.below hb; replace S5 := S5.below hb; replace b0 := below_any b0 hb b0.size; have f0 := S4.c0; have g0 := S5.c0; have f1 := S4.c1; have g1 := S5.c1; have f3 := S4.c3; have g3 := S5.c3; clear hb)
                  | (go_at_call 45; (with_reducible refine (hn1 _).mono ?_); rintro e w' ⟨rfl, hb⟩; replace S4 := S4.below hb; replace S5 := S5.below hb; replace b0 := below_any b0 hb b0.size; have f0 := S4.c0; have g0 := S5.c0; have f1 := S4.c1; have g1 := S5.c1; have f3 := S4.c3; have g3 := S5.c3; clear hb)
                  | (go_at_call 45; (with_reducible refine (hn2 _).mono ?_); rintro e w' ⟨rfl, hb⟩; replace S4 := S4.below hb; replace S5 := S5.below hb; replace b0 := below_any b0 hb b0.size; have f0 := S4.c0; have g0 := S5.c0; have f1 := S4.c1; have g1 := S5.c1; have f3 := S4.c3; have g3 := S5.c3; clear hb)
                  | (go_at_call 46; (with_reducible refine (refTruthAt _ _).mono ?_); rintro e w' ⟨rfl, rfl⟩))
                go_ret
                exact ⟨rfl, b0⟩
            · rw [if_neg e1]
              by_cases k4 : k = 4
              · have d4 : (k2 == 4) = false := by simpa using fun h => e4 ⟨k4, h⟩
                subst k4
                clear e1 e4
                go_enter Tryz.func22, Tryz.ntmps22
                go_wp2_with (first
                  | ((try rw [← H0.out]); (with_reducible refine wpList_load6 (.tmp 2) w.heap.size S4 ?_ ?_ ?_ ?_); rfl; rfl; rfl)
                  | ((try rw [← H0.out]); (with_reducible refine wpList_load6g (.tmp 2) w.heap.size S4 ?_ ?_ ?_ ?_); rfl; rfl; rfl)
                  | ((try rw [← H0.out]); (with_reducible refine wpList_load6 (.tmp 3) (w.heap.size + 1) S5 ?_ ?_ ?_ ?_); rfl; rfl; rfl)
                  | ((try rw [← H0.out]); (with_reducible refine wpList_load6g (.tmp 3) (w.heap.size + 1) S5 ?_ ?_ ?_ ?_); rfl; rfl; rfl)
                  | (go_at_call 14; (with_reducible refine (hm1 _ b0).mono ?_); rintro e w' ⟨rfl, hb⟩; replace S4 := S4.below hb; replace S5 := S5.below hb; replace b0 := below_any b0 hb b0.size; have f0 := S4.c0; have g0 := S5.c0; have f1 := S4.c1; have g1 := S5.c1; have f3 := S4.c3; have g3 := S5.c3; clear hb)
                  | (go_at_call 14; (with_reducible refine (hm2 _ b0).mono ?_); rintro e w' ⟨rfl, hb⟩; replace S4 := S4.below hb; replace S5 := S5.below hb; replace b0 := below_any b0 hb b0.size; have f0 := S4.c0; have g0 := S5.c0; have f1 := S4.c1; have g1 := S5.c1; have f3 := S4.c3; have g3 := S5.c3; clear hb)
                  | (go_at_call 45; (with_reducible refine (hn1 _).mono ?_); rintro e w' ⟨rfl, hb⟩; replace S4 := S4.below hb; replace S5 := S5.below hb; replace b0 := below_any b0 hb b0.size; have f0 := S4.c0; have g0 := S5.c0; have f1 := S4.c1; have g1 := S5.c1; have f3 := S4.c3; have g3 := S5.c3; clear hb)
                  | (go_at_call 45; (with_reducible refine (hn2 _).mono ?_); rintro e w' ⟨rfl, hb⟩; replace S4 := S4.below hb; replace S5 := S5.below hb; replace b0 := below_any b0 hb b0.size; have f0 := S4.c0; have g0 := S5.c0; have f1 := S4.c1; have g1 := S5.c1; have f3 := S4.c3; have g3 := S5.c3; clear hb)
                  | (go_at_call 46; (with_reducible refine (refTruthAt _ _).mono ?_); rintro e w' ⟨rfl, rfl⟩))
                go_ret
                exact ⟨rfl, b0⟩
              · have d4 : (k == 4) = false := by simpa using k4
                by_cases k1 : k = 1
                · have d1 : (k2 == 1) = false := by simpa using fun h => e1 ⟨k1, h⟩
                  subst k1
                  clear e1 e4 k4
                  go_enter Tryz.func22, Tryz.ntmps22
                  go_wp2_with (first
                    | ((try rw [← H0.out]); (with_reducible refine wpList_load6 (.tmp 2) w.heap.size S4 ?_ ?_ ?_ ?_); rfl; rfl; rfl)
                    | ((try rw [← H0.out]); (with_reducible refine wpList_load6g (.tmp 2) w.heap.size S4 ?_ ?_ ?_ ?_); rfl; rfl; rfl)
                    | ((try rw [← H0.out]); (with_reducible refine wpList_load6 (.tmp 3) (w.heap.size + 1) S5 ?_ ?_ ?_ ?_); rfl; rfl; rfl)
                    | ((try rw [← H0.out]); (with_reducible refine wpList_load6g (.tmp 3) (w.heap.size + 1) S5 ?_ ?_ ?_ ?_); rfl; rfl; rfl)
                    | (go_at_call 14; (with_reducible refine (hm1 _ b0).mono ?_); rintro e w' ⟨rfl, hb⟩; replace S4 := S4.below hb; replace S5 := S5.below hb; replace b0 := below_any b0 hb b0.size; have f0 := S4.c0; have g0 := S5.c0; have f1 := S4.c1; have g1 := S5.c1; have f3 := S4.c3; have g3 := S5.c3; clear hb)
                    | (go_at_call 14; (with_reducible refine (hm2 _ b0).mono ?_); rintro e w' ⟨rfl, hb⟩; replace S4 := S4.below hb; replace S5 := S5.below hb; replace b0 := below_any b0 hb b0.size; have f0 := S4.c0; have g0 := S5.c0; have f1 := S4.c1; have g1 := S5.c1; have f3 := S4.c3; have g3 := S5.c3; clear hb)
                    | (go_at_call 45; (with_reducible refine (hn1 _).mono ?_); rintro e w' ⟨rfl, hb⟩; replace S4 := S4.below hb; replace S5 := S5.below hb; replace b0 := below_any b0 hb b0.size; have f0 := S4.c0; have g0 := S5.c0; have f1 := S4.c1; have g1 := S5.c1; have f3 := S4.c3; have g3 := S5.c3; clear hb)
                    | (go_at_call 45; (with_reducible refine (hn2 _).mono ?_); rintro e w' ⟨rfl, hb⟩; replace S4 := S4.below hb; replace S5 := S5.below hb; replace b0 := below_any b0 hb b0.size; have f0 := S4.c0; have g0 := S5.c0; have f1 := S4.c1; have g1 := S5.c1; have f3 := S4.c3; have g3 := S5.c3; clear hb)
                    | (go_at_call 46; (with_reducible refine (refTruthAt _ _).mono ?_); rintro e w' ⟨rfl, rfl⟩))
                  go_ret
                  exact ⟨rfl, b0⟩
                · have d1 : (k == 1) = false := by simpa using k1
                  clear e1 e4 k4 k1
                  go_enter Tryz.func22, Tryz.ntmps22
                  go_wp2_with (first
                    | ((try rw [← H0.out]); (with_reducible refine wpList_load6 (.tmp 2) w.heap.size S4 ?_ ?_ ?_ ?_); rfl; rfl; rfl)
                    | ((try rw [← H0.out]); (with_reducible refine wpList_load6g (.tmp 2) w.heap.size S4 ?_ ?_ ?_ ?_); rfl; rfl; rfl)
                    | ((try rw [← H0.out]); (with_reducible refine wpList_load6 (.tmp 3) (w.heap.size + 1) S5 ?_ ?_ ?_ ?_); rfl; rfl; rfl)
                    | ((try rw [← H0.out]); (with_reducible refine wpList_load6g (.tmp 3) (w.heap.size + 1) S5 ?_ ?_ ?_ ?_); rfl; rfl; rfl)
                    | (go_at_call 14; (with_reducible refine (hm1 _ b0).mono ?_); rintro e w' ⟨rfl, hb⟩; replace S4 := S4.below hb; replace S5 := S5.below hb; replace b0 := below_any b0 hb b0.size; have f0 := S4.c0; have g0 := S5.c0; have f1 := S4.c1; have g1 := S5.c1; have f3 := S4.c3; have g3 := S5.c3; clear hb)
                    | (go_at_call 14; (with_reducible refine (hm2 _ b0).mono ?_); rintro e w' ⟨rfl, hb⟩; replace S4 := S4.below hb; replace S5 := S5.below hb; replace b0 := below_any b0 hb b0.size; have f0 := S4.c0; have g0 := S5.c0; have f1 := S4.c1; have g1 := S5.c1; have f3 := S4.c3; have g3 := S5.c3; clear hb)
                    | (go_at_call 45; (with_reducible refine (hn1 _).mono ?_); rintro e w' ⟨rfl, hb⟩; replace S4 := S4.below hb; replace S5 := S5.below hb; replace b0 := below_any b0 hb b0.size; have f0 := S4.c0; have g0 := S5.c0; have f1 := S4.c1; have g1 := S5.c1; have f3 := S4.c3; have g3 := S5.c3; clear hb)
                    | (go_at_call 45; (with_reducible refine (hn2 _).mono ?_); rintro e w' ⟨rfl, hb⟩; replace S4 := S4.below hb; replace S5 := S5.below hb; replace b0 := below_any b0 hb b0.size; have f0 := S4.c0; have g0 := S5.c0; have f1 := S4.c1; have g1 := S5.c1; have f3 := S4.c3; have g3 := S5.c3; clear hb)
                    | (go_at_call 46; (with_reducible refine (refTruthAt _ _).mono ?_); rintro e w' ⟨rfl, rfl⟩))
                  go_ret
                  exact ⟨rfl, b0⟩
end Go.Proofs.YtoifjjgakblhhaaGreatDoor

/- Where a value stands by its kind; how two truths stand. -/
namespace Go.Proofs.YtoifjjgakblhhaaGreatDoor
open Go.RowKit

set_option maxRecDepth 4000 in
set_option maxHeartbeats 6400000 in
theorem rankAt (lang k : Int) (b : Bool) (n : Int) (t x : ByteArray) (p : Option Addr) (len cap : Nat) (w : World) :
    Calls Tryz.prog 54 #[.int .i64 lang, .agg #[.int .i64 k, .bool b, .int .i64 n, .string t, .string x, .slice p len cap]] w fun e w' => e = .returned (.int .i64 (rankI lang k)) ∧ Below w.heap.size w w' := by
  have S := six_new (k := k) (b := b) (n := n) (t := t) (x := x) (p := p) (len := len) (cap := cap) w rfl
  have b0 := below1 w (.cells #[.int .i64 k, .bool b, .int .i64 n, .string t, .string x, .slice p len cap] 28)
  by_cases h0 : k = 0
  · subst h0
    by_cases hl : lang = 1
    · subst hl
      rw [show rankI 1 0 = 0 from rfl]
      go_enter Tryz.func54, Tryz.ntmps54
      go_wp2_with (first
        | ((with_reducible refine wpList_load6 (.tmp 3) w.heap.size S ?_ ?_ ?_ ?_); rfl; rfl; rfl)
        | (go_at_call 72; (with_reducible refine (kindOfAt 0 b n t x _ 80 rfl _).mono ?_); rintro e w2 ⟨rfl, hb2⟩; have b2 := below_any b0 hb2 b0.size; clear hb2)
        | (simp only [ta80_80, ta80_81, ta80_82, ta80_83, ta80_84, ta80_85, ta80_87, ta80_88, ta80_89, ta80_90, ta80_91, Result.andThen_ok]))
      go_ret
      exact ⟨rfl, b2⟩
    · rw [show rankI lang 0 = 10 by unfold rankI; rw [if_pos rfl, if_neg hl]]
      go_enter Tryz.func54, Tryz.ntmps54
      go_wp2_with (first
        | ((with_reducible refine wpList_load6 (.tmp 3) w.heap.size S ?_ ?_ ?_ ?_); rfl; rfl; rfl)
        | (go_at_call 72; (with_reducible refine (kindOfAt 0 b n t x _ 80 rfl _).mono ?_); rintro e w2 ⟨rfl, hb2⟩; have b2 := below_any b0 hb2 b0.size; clear hb2)
        | (simp only [ta80_80, ta80_81, ta80_82, ta80_83, ta80_84, ta80_85, ta80_87, ta80_88, ta80_89, ta80_90, ta80_91, Result.andThen_ok]))
      go_ret
      exact ⟨rfl, b2⟩
  by_cases h1 : k = 1
  · subst h1
    rw [show rankI lang 1 = 8 from rfl]
    go_enter Tryz.func54, Tryz.ntmps54
    go_wp2_with (first
      | ((with_reducible refine wpList_load6 (.tmp 3) w.heap.size S ?_ ?_ ?_ ?_); rfl; rfl; rfl)
      | (go_at_call 72; (with_reducible refine (kindOfAt 1 b n t x _ 81 rfl _).mono ?_); rintro e w2 ⟨rfl, hb2⟩; have b2 := below_any b0 hb2 b0.size; clear hb2)
      | (simp only [ta81_80, ta81_81, ta81_82, ta81_83, ta81_84, ta81_85, ta81_87, ta81_88, ta81_89, ta81_90, ta81_91, Result.andThen_ok]))
    go_ret
    exact ⟨rfl, b2⟩
  by_cases h2 : k = 2
  · subst h2
    rw [show rankI lang 2 = 9 from rfl]
    go_enter Tryz.func54, Tryz.ntmps54
    go_wp2_with (first
      | ((with_reducible refine wpList_load6 (.tmp 3) w.heap.size S ?_ ?_ ?_ ?_); rfl; rfl; rfl)
      | (go_at_call 72; (with_reducible refine (kindOfAt 2 b n t x _ 82 rfl _).mono ?_); rintro e w2 ⟨rfl, hb2⟩; have b2 := below_any b0 hb2 b0.size; clear hb2)
      | (simp only [ta82_80, ta82_81, ta82_82, ta82_83, ta82_84, ta82_85, ta82_87, ta82_88, ta82_89, ta82_90, ta82_91, Result.andThen_ok]))
    go_ret
    exact ⟨rfl, b2⟩
  by_cases h3 : k = 3
  · subst h3
    rw [show rankI lang 3 = 9 from rfl]
    go_enter Tryz.func54, Tryz.ntmps54
    go_wp2_with (first
      | ((with_reducible refine wpList_load6 (.tmp 3) w.heap.size S ?_ ?_ ?_ ?_); rfl; rfl; rfl)
      | (go_at_call 72; (with_reducible refine (kindOfAt 3 b n t x _ 85 rfl _).mono ?_); rintro e w2 ⟨rfl, hb2⟩; have b2 := below_any b0 hb2 b0.size; clear hb2)
      | (simp only [ta85_80, ta85_81, ta85_82, ta85_83, ta85_84, ta85_85, ta85_87, ta85_88, ta85_89, ta85_90, ta85_91, Result.andThen_ok]))
    go_ret
    exact ⟨rfl, b2⟩
  by_cases h4 : k = 4
  · subst h4
    rw [show rankI lang 4 = 7 from rfl]
    go_enter Tryz.func54, Tryz.ntmps54
    go_wp2_with (first
      | ((with_reducible refine wpList_load6 (.tmp 3) w.heap.size S ?_ ?_ ?_ ?_); rfl; rfl; rfl)
      | (go_at_call 72; (with_reducible refine (kindOfAt 4 b n t x _ 87 rfl _).mono ?_); rintro e w2 ⟨rfl, hb2⟩; have b2 := below_any b0 hb2 b0.size; clear hb2)
      | (simp only [ta87_80, ta87_81, ta87_82, ta87_83, ta87_84, ta87_85, ta87_87, ta87_88, ta87_89, ta87_90, ta87_91, Result.andThen_ok]))
    go_ret
    exact ⟨rfl, b2⟩
  by_cases h5 : k = 5
  · subst h5
    rw [show rankI lang 5 = 1 from rfl]
    go_enter Tryz.func54, Tryz.ntmps54
    go_wp2_with (first
      | ((with_reducible refine wpList_load6 (.tmp 3) w.heap.size S ?_ ?_ ?_ ?_); rfl; rfl; rfl)
      | (go_at_call 72; (with_reducible refine (kindOfAt 5 b n t x _ 91 rfl _).mono ?_); rintro e w2 ⟨rfl, hb2⟩; have b2 := below_any b0 hb2 b0.size; clear hb2)
      | (simp only [ta91_80, ta91_81, ta91_82, ta91_83, ta91_84, ta91_85, ta91_87, ta91_88, ta91_89, ta91_90, ta91_91, Result.andThen_ok]))
    go_ret
    exact ⟨rfl, b2⟩
  by_cases h6 : k = 6
  · subst h6
    rw [show rankI lang 6 = 2 from rfl]
    go_enter Tryz.func54, Tryz.ntmps54
    go_wp2_with (first
      | ((with_reducible refine wpList_load6 (.tmp 3) w.heap.size S ?_ ?_ ?_ ?_); rfl; rfl; rfl)
      | (go_at_call 72; (with_reducible refine (kindOfAt 6 b n t x _ 83 rfl _).mono ?_); rintro e w2 ⟨rfl, hb2⟩; have b2 := below_any b0 hb2 b0.size; clear hb2)
      | (simp only [ta83_80, ta83_81, ta83_82, ta83_83, ta83_84, ta83_85, ta83_87, ta83_88, ta83_89, ta83_90, ta83_91, Result.andThen_ok]))
    go_ret
    exact ⟨rfl, b2⟩
  by_cases h7 : k = 7
  · subst h7
    rw [show rankI lang 7 = 3 from rfl]
    go_enter Tryz.func54, Tryz.ntmps54
    go_wp2_with (first
      | ((with_reducible refine wpList_load6 (.tmp 3) w.heap.size S ?_ ?_ ?_ ?_); rfl; rfl; rfl)
      | (go_at_call 72; (with_reducible refine (kindOfAt 7 b n t x _ 84 rfl _).mono ?_); rintro e w2 ⟨rfl, hb2⟩; have b2 := below_any b0 hb2 b0.size; clear hb2)
      | (simp only [ta84_80, ta84_81, ta84_82, ta84_83, ta84_84, ta84_85, ta84_87, ta84_88, ta84_89, ta84_90, ta84_91, Result.andThen_ok]))
    go_ret
    exact ⟨rfl, b2⟩
  by_cases h8 : k = 8
  · subst h8
    rw [show rankI lang 8 = 5 from rfl]
    go_enter Tryz.func54, Tryz.ntmps54
    go_wp2_with (first
      | ((with_reducible refine wpList_load6 (.tmp 3) w.heap.size S ?_ ?_ ?_ ?_); rfl; rfl; rfl)
      | (go_at_call 72; (with_reducible refine (kindOfAt 8 b n t x _ 88 rfl _).mono ?_); rintro e w2 ⟨rfl, hb2⟩; have b2 := below_any b0 hb2 b0.size; clear hb2)
      | (simp only [ta88_80, ta88_81, ta88_82, ta88_83, ta88_84, ta88_85, ta88_87, ta88_88, ta88_89, ta88_90, ta88_91, Result.andThen_ok]))
    go_ret
    exact ⟨rfl, b2⟩
  by_cases h9 : k = 9
  · subst h9
    rw [show rankI lang 9 = 4 from rfl]
    go_enter Tryz.func54, Tryz.ntmps54
    go_wp2_with (first
      | ((with_reducible refine wpList_load6 (.tmp 3) w.heap.size S ?_ ?_ ?_ ?_); rfl; rfl; rfl)
      | (go_at_call 72; (with_reducible refine (kindOfAt 9 b n t x _ 89 rfl _).mono ?_); rintro e w2 ⟨rfl, hb2⟩; have b2 := below_any b0 hb2 b0.size; clear hb2)
      | (simp only [ta89_80, ta89_81, ta89_82, ta89_83, ta89_84, ta89_85, ta89_87, ta89_88, ta89_89, ta89_90, ta89_91, Result.andThen_ok]))
    go_ret
    exact ⟨rfl, b2⟩
  by_cases h10 : k = 10
  · subst h10
    rw [show rankI lang 10 = 6 from rfl]
    go_enter Tryz.func54, Tryz.ntmps54
    go_wp2_with (first
      | ((with_reducible refine wpList_load6 (.tmp 3) w.heap.size S ?_ ?_ ?_ ?_); rfl; rfl; rfl)
      | (go_at_call 72; (with_reducible refine (kindOfAt 10 b n t x _ 90 rfl _).mono ?_); rintro e w2 ⟨rfl, hb2⟩; have b2 := below_any b0 hb2 b0.size; clear hb2)
      | (simp only [ta90_80, ta90_81, ta90_82, ta90_83, ta90_84, ta90_85, ta90_87, ta90_88, ta90_89, ta90_90, ta90_91, Result.andThen_ok]))
    go_ret
    exact ⟨rfl, b2⟩
  have hk : kindT k = 124 := by unfold kindT; simp [h0, h1, h2, h3, h4, h5, h6, h7, h8, h9, h10]
  rw [show rankI lang k = 11 by unfold rankI; simp [h0, h1, h2, h3, h4, h5, h6, h7, h8, h9, h10]]
  go_enter Tryz.func54, Tryz.ntmps54
  go_wp2_with (first
    | ((with_reducible refine wpList_load6 (.tmp 3) w.heap.size S ?_ ?_ ?_ ?_); rfl; rfl; rfl)
    | (go_at_call 72; (with_reducible refine (kindOfAt k b n t x _ 124 hk.symm _).mono ?_); rintro e w2 ⟨rfl, hb2⟩; have b2 := below_any b0 hb2 b0.size; clear hb2)
    | (simp only [ta124_80, ta124_81, ta124_82, ta124_83, ta124_84, ta124_85, ta124_87, ta124_88, ta124_89, ta124_90, ta124_91, Result.andThen_ok]))
  go_ret
  exact ⟨rfl, b2⟩
theorem orderBoolsAt (a b : Bool) (w : World) : Calls Tryz.prog 95 #[.bool a, .bool b] w fun e w' => e = .returned (.int .i64 (boolI a b)) ∧ w' = w := by
  cases a <;> cases b
  all_goals
    go_enter Tryz.func95, Tryz.ntmps95
    go_wp2_with fail
    go_ret
    exact ⟨rfl, rfl⟩
end Go.Proofs.YtoifjjgakblhhaaGreatDoor
