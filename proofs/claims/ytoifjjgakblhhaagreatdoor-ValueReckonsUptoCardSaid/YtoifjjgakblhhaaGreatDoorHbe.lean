/- Texts of one kind, one behind the other: each says ahead of itself what it shows. -/
import Derived.Test.YtoifjjgakblhhaaGreatDoorHbd
/- What Arith tells, by the document: two decimals. -/
namespace Go.Proofs.YtoifjjgakblhhaaGreatDoor
open Go.RowKit

set_option maxRecDepth 20000 in
set_option maxHeartbeats 12800000 in
theorem rfDec17 (lang : Int) (k : Int) (b : Bool) (n : Int) (t x : ByteArray) (q : List Val) (p : Option Addr) (cap : Nat) (k2 : Int) (b2 : Bool) (n2 : Int) (t2 x2 : ByteArray) (q2 : List Val) (p2 : Option Addr) (cap2 : Nat) (w : World) (k9 n9 : Int) (t9 : ByteArray) (e9 : Int) (m1 m2 : Bool) (hc1 : ∀ W, Below w.heap.size w W → Calls Tryz.prog 14 #[.agg #[.int .i64 k, .bool b, .int .i64 n, .string t, .string x, .slice p q.length cap]] W fun e w' => e = .returned (.bool m1) ∧ Below W.heap.size W w') (hc2 : ∀ W, Below w.heap.size w W → Calls Tryz.prog 14 #[.agg #[.int .i64 k2, .bool b2, .int .i64 n2, .string t2, .string x2, .slice p2 q2.length cap2]] W fun e w' => e = .returned (.bool m2) ∧ Below W.heap.size W w') (e1 : m1 = true) (e2 : m2 = true) (ez1 : (k == 0) = false) (ez2 : (k2 == 0) = false) (jl kk a2 c2 : Bool) (el : (lang != 1) = jl) (ek : (k == k2) = kk) (y4 : (k == 4) = false) (y5 : (k == 5) = false) (u1 : (k == 2 || k == 3) = true) (u2 : (k2 == 2 || k2 == 3) = true) (v1 : (k == 2) = a2) (v2 : (k2 == 2) = c2) (hh : (a2 && c2) = false) (s s2 X : ByteArray) (c : Int) (ha : ∀ W, Below w.heap.size w W → Calls Tryz.prog 48 #[.agg #[.int .i64 k, .bool b, .int .i64 n, .string t, .string x, .slice p q.length cap]] W fun e w' => e = .returned (.string s) ∧ Below W.heap.size W w') (hb : ∀ W, Below w.heap.size w W → Calls Tryz.prog 48 #[.agg #[.int .i64 k2, .bool b2, .int .i64 n2, .string t2, .string x2, .slice p2 q2.length cap2]] W fun e w' => e = .returned (.string s2) ∧ Below W.heap.size W w') (hc : ∀ W, Below w.heap.size w W → Calls Tryz.prog 63 #[.string s, .string s2] W fun e w' => e = .returned (.tuple #[.string X, .int .i64 c]) ∧ Below W.heap.size W w') (hd : ∀ W, Below w.heap.size w W → Calls Tryz.prog 62 #[.string X, .int .i64 c] W (RPost W k9 n9 t9 e9)) :
    Calls Tryz.prog 26 #[.int .i64 lang, .int .i64 17, .agg #[.int .i64 k, .bool b, .int .i64 n, .string t, .string x, .slice p q.length cap], .agg #[.int .i64 k2, .bool b2, .int .i64 n2, .string t2, .string x2, .slice p2 q2.length cap2]] w (APost w k9 n9 t9 [] e9) := by
  obtain ⟨W0, hW0⟩ : ∃ W0, W0 = ((w.alloc (.cells #[.int .i64 k, .bool b, .int .i64 n, .string t, .string x, .slice p q.length cap] 28)).alloc (.cells #[.int .i64 k2, .bool b2, .int .i64 n2, .string t2, .string x2, .slice p2 q2.length cap2] 28)).alloc (.cells #[.int .i64 0, .bool false, .int .i64 0, .string ⟨#[]⟩, .string ⟨#[]⟩, .slice none 0 0] 28) := ⟨_, rfl⟩
  have S4 : Six W0 w.heap.size k b n t x p q.length cap := by rw [hW0]; exact ((six_new _ rfl).alloc _).alloc _
  have S5 : Six W0 (w.heap.size + 1) k2 b2 n2 t2 x2 p2 q2.length cap2 := by rw [hW0]; exact (six_new _ (by simp)).alloc _
  have S8 : Six W0 (w.heap.size + 2) 0 false 0 ⟨#[]⟩ ⟨#[]⟩ none 0 0 := by rw [hW0]; exact six_new _ (by simp)
  have b0 : Below w.heap.size w W0 := by rw [hW0]; exact below3 _ _ _ _
  have f0 := S4.c0
  have g0 := S5.c0
  have f2 := S4.c2
  have g2 := S5.c2
  have f3 := S4.c3
  have g3 := S5.c3
  have f5 := S4.c5
  have g5 := S5.c5
  have H0 := Lib.hid hW0
  clear hW0
  have hn1 := fun W => refNumberAt k b n t x p q.length cap W
  have hn2 := fun W => refNumberAt k2 b2 n2 t2 x2 p2 q2.length cap2 W
  unfold RPost at hd
  rw [u1] at hn1
  rw [u2] at hn2
  clear u1 u2
  subst e1 e2
  have hA := Lib.hid ha
  have hB := Lib.hid hb
  have hC := Lib.hid hc
  have hD := Lib.hid hd
  clear ha hb hc hd
  have hns : a2 = false ∨ (a2 = true ∧ c2 = false) := by cases a2 <;> cases c2 <;> simp at hh ⊢
  clear hh
  rcases hns with rfl | ⟨rfl, rfl⟩
  all_goals
    have hcs : (jl = false ∧ kk = kk) ∨ (jl = true ∧ kk = false) ∨ (jl = true ∧ kk = true) := by cases jl <;> cases kk <;> simp
    rcases hcs with ⟨rfl, _⟩ | ⟨rfl, rfl⟩ | ⟨rfl, rfl⟩
    all_goals
      go_enter Tryz.func26, Tryz.ntmps26
      go_wp2_with (first
        | ((try rw [← H0.out]); (with_reducible refine wpList_load6 (.tmp 6) w.heap.size S4 ?_ ?_ ?_ ?_); rfl; rfl; rfl)
        | ((try rw [← H0.out]); (with_reducible refine wpList_load6g (.tmp 6) w.heap.size S4 ?_ ?_ ?_ ?_); rfl; rfl; rfl)
        | ((try rw [← H0.out]); (with_reducible refine wpList_load6 (.tmp 7) (w.heap.size + 1) S5 ?_ ?_ ?_ ?_); rfl; rfl; rfl)
        | ((try rw [← H0.out]); (with_reducible refine wpList_load6g (.tmp 7) (w.heap.size + 1) S5 ?_ ?_ ?_ ?_); rfl; rfl; rfl)
        | (go_at_call 14; (try rw [← H0.out]); (with_reducible refine (hc1 _ b0).mono ?_); rintro e w' ⟨rfl, hb⟩; replace S4 := S4.below hb; replace S5 := S5.below hb; replace S8 := S8.below hb; replace b0 := below_any b0 hb b0.size; have f0 := S4.c0; have g0 := S5.c0; have f2 := S4.c2; have g2 := S5.c2; have f3 := S4.c3; have g3 := S5.c3; have f5 := S4.c5; have g5 := S5.c5; clear hb)
        | (go_at_call 14; (try rw [← H0.out]); (with_reducible refine (hc2 _ b0).mono ?_); rintro e w' ⟨rfl, hb⟩; replace S4 := S4.below hb; replace S5 := S5.below hb; replace S8 := S8.below hb; replace b0 := below_any b0 hb b0.size; have f0 := S4.c0; have g0 := S5.c0; have f2 := S4.c2; have g2 := S5.c2; have f3 := S4.c3; have g3 := S5.c3; have f5 := S4.c5; have g5 := S5.c5; clear hb)
        | (go_at_call 45; (try rw [← H0.out]); (with_reducible refine (hn1 _).mono ?_); rintro e w' ⟨rfl, hb⟩; replace S4 := S4.below hb; replace S5 := S5.below hb; replace S8 := S8.below hb; replace b0 := below_any b0 hb b0.size; have f0 := S4.c0; have g0 := S5.c0; have f2 := S4.c2; have g2 := S5.c2; have f3 := S4.c3; have g3 := S5.c3; have f5 := S4.c5; have g5 := S5.c5; clear hb)
        | (go_at_call 45; (try rw [← H0.out]); (with_reducible refine (hn2 _).mono ?_); rintro e w' ⟨rfl, hb⟩; replace S4 := S4.below hb; replace S5 := S5.below hb; replace S8 := S8.below hb; replace b0 := below_any b0 hb b0.size; have f0 := S4.c0; have g0 := S5.c0; have f2 := S4.c2; have g2 := S5.c2; have f3 := S4.c3; have g3 := S5.c3; have f5 := S4.c5; have g5 := S5.c5; clear hb))
      refine wp_region_held_drew (S := fun w' => Six w' w.heap.size k b n t x p q.length cap ∧ Six w' (w.heap.size + 1) k2 b2 n2 t2 x2 p2 q2.length cap2 ∧ ∃ k8 b8 n8 t8 x8 p8 l8 m8, Six w' (w.heap.size + 2) k8 b8 n8 t8 x8 p8 l8 m8) (by kernel_rfl) ⟨S4, S5, _, _, _, _, _, _, _, _, S8⟩ (fun hHeld => ?_)
      replace b0 := b0.drew
      clear S4 S5 S8
      obtain ⟨S4, S5, k8, b8, n8, t8, x8, p8, l8, m8, S8⟩ := hHeld
      refine wpAnyH_take (i := 0) rfl (by kernel_rfl) (by kernel_rfl) (by kernel_rfl) (fun _ _ _ h => h) (yields6 (by rfl) (.tmp 6) rfl w.heap.size rfl (fun _ h => h.1)) ⟨S4, S5, _, _, _, _, _, _, _, _, S8⟩ ?_
      try simp only [Act.put, List.getElem_toArray, List.getElem_cons_succ, List.getElem_cons_zero, List.setIfInBounds_toArray, List.set_cons_zero, List.set_cons_succ]
      refine wpAnyH_take (i := 2) rfl (by kernel_rfl) (by kernel_rfl) (by kernel_rfl) (fun _ _ _ h => h) (yields6 (by rfl) (.tmp 7) rfl (w.heap.size + 1) rfl (fun _ h => h.2.1)) ⟨S4, S5, _, _, _, _, _, _, _, _, S8⟩ ?_
      try simp only [Act.put, List.getElem_toArray, List.getElem_cons_succ, List.getElem_cons_zero, List.setIfInBounds_toArray, List.set_cons_zero, List.set_cons_succ]
      refine wpAnyH_ready (rs := [1]) (by kernel_rfl) (by simp) ?_
      refine AllReadyH.cons rfl (fun K hK => ?_) AllReadyH.nil
      rw [if_pos (by rfl)]
      go_simp
      refine (hA.out _ b0).mono ?_
      rintro e w3 ⟨rfl, hb⟩
      replace S4 := S4.below hb
      replace S5 := S5.below hb
      replace S8 := S8.below hb
      replace b0 := below_any b0 hb b0.size
      clear hb
      refine hK.out _ _ ⟨S4, S5, _, _, _, _, _, _, _, _, S8⟩ (fun _ => ?_)
      clear hK K
      try simp only [Act.put, List.getElem_toArray, List.getElem_cons_succ, List.getElem_cons_zero, List.setIfInBounds_toArray, List.set_cons_zero, List.set_cons_succ]
      refine wpAnyH_ready (rs := [3]) (by kernel_rfl) (by simp) ?_
      refine AllReadyH.cons rfl (fun K hK => ?_) AllReadyH.nil
      rw [if_pos (by rfl)]
      go_simp
      refine (hB.out _ b0).mono ?_
      rintro e w3 ⟨rfl, hb⟩
      replace S4 := S4.below hb
      replace S5 := S5.below hb
      replace S8 := S8.below hb
      replace b0 := below_any b0 hb b0.size
      clear hb
      refine hK.out _ _ ⟨S4, S5, _, _, _, _, _, _, _, _, S8⟩ (fun _ => ?_)
      clear hK K
      try simp only [Act.put, List.getElem_toArray, List.getElem_cons_succ, List.getElem_cons_zero, List.setIfInBounds_toArray, List.set_cons_zero, List.set_cons_succ]
      refine wpAnyH_ready (rs := [4]) (by kernel_rfl) (by simp) ?_
      refine AllReadyH.cons rfl (fun K hK => ?_) AllReadyH.nil
      rw [if_pos (by rfl)]
      go_simp
      refine (hC.out _ b0).mono ?_
      rintro e w3 ⟨rfl, hb⟩
      replace S4 := S4.below hb
      replace S5 := S5.below hb
      replace S8 := S8.below hb
      replace b0 := below_any b0 hb b0.size
      clear hb
      refine hK.out _ _ ⟨S4, S5, _, _, _, _, _, _, _, _, S8⟩ (fun _ => ?_)
      clear hK K
      try simp only [Act.put, List.getElem_toArray, List.getElem_cons_succ, List.getElem_cons_zero, List.setIfInBounds_toArray, List.set_cons_zero, List.set_cons_succ]
      refine wpAnyH_take (i := 5) (v := .string X) rfl (by kernel_rfl) (by kernel_rfl) (by kernel_rfl) (fun _ _ _ h => h) (Or.inl ⟨by rfl, fun W _ => by go_simp⟩) ⟨S4, S5, _, _, _, _, _, _, _, _, S8⟩ ?_
      try simp only [Act.put, List.getElem_toArray, List.getElem_cons_succ, List.getElem_cons_zero, List.setIfInBounds_toArray, List.set_cons_zero, List.set_cons_succ]
      refine wpAnyH_take (i := 6) (v := .int .i64 c) rfl (by kernel_rfl) (by kernel_rfl) (by kernel_rfl) (fun _ _ _ h => h) (Or.inl ⟨by rfl, fun W _ => by go_simp⟩) ⟨S4, S5, _, _, _, _, _, _, _, _, S8⟩ ?_
      try simp only [Act.put, List.getElem_toArray, List.getElem_cons_succ, List.getElem_cons_zero, List.setIfInBounds_toArray, List.set_cons_zero, List.set_cons_succ]
      refine wpAnyH_ready (rs := [7]) (by kernel_rfl) (by simp) ?_
      refine AllReadyH.cons rfl (fun K hK => ?_) AllReadyH.nil
      rw [if_pos (by rfl)]
      go_simp
      refine (hD.out _ b0).mono ?_
      rintro e w3 ⟨rfl, hb⟩
      replace S4 := S4.below hb
      replace S5 := S5.below hb
      replace S8 := S8.below hb
      replace b0 := below_any b0 hb b0.size
      clear hb
      refine hK.out _ _ ⟨S4, S5, _, _, _, _, _, _, _, _, S8⟩ (fun _ => ?_)
      clear hK K
      try simp only [Act.put, List.getElem_toArray, List.getElem_cons_succ, List.getElem_cons_zero, List.setIfInBounds_toArray, List.set_cons_zero, List.set_cons_succ]
      refine wpAnyH_take (i := 8) (v := .agg #[.int .i64 k9, .bool false, .int .i64 n9, .string t9, .string ⟨#[]⟩, .slice none 0 0]) rfl (by kernel_rfl) (by kernel_rfl) (by kernel_rfl) (fun _ _ _ h => h) (Or.inl ⟨by rfl, fun W _ => by go_simp⟩) ⟨S4, S5, _, _, _, _, _, _, _, _, S8⟩ ?_
      try simp only [Act.put, List.getElem_toArray, List.getElem_cons_succ, List.getElem_cons_zero, List.setIfInBounds_toArray, List.set_cons_zero, List.set_cons_succ]
      refine wpAnyH_take (i := 9) (v := .int .i64 e9) rfl (by kernel_rfl) (by kernel_rfl) (by kernel_rfl) (fun _ _ _ h => h) (Or.inl ⟨by rfl, fun W _ => by go_simp⟩) ⟨S4, S5, _, _, _, _, _, _, _, _, S8⟩ ?_
      try simp only [Act.put, List.getElem_toArray, List.getElem_cons_succ, List.getElem_cons_zero, List.setIfInBounds_toArray, List.set_cons_zero, List.set_cons_succ]
      have z3 := S8.lt
      have b3 := b0
      refine wpAnyH_ready (rs := [10]) (by kernel_rfl) (by simp) ?_
      refine AllReadyH.cons rfl (fun K hK => ?_) AllReadyH.nil
      try rw [if_pos (by rfl)]
      refine wp_store6 (k' := k9) (b' := false) (n' := n9) (t' := t9) (x' := ⟨#[]⟩) (p' := none) (len' := 0) (cap' := 0) (.tmp 8) (.tmp 142) rfl (w.heap.size + 2) S8 rfl rfl ?_
      intro w9 on9 S9
      replace S4 := S4.only on9 (by omega)
      replace S5 := S5.only on9 (by omega)
      replace S8 := S9
      refine hK.out _ _ ⟨S4, S5, _, _, _, _, _, _, _, _, S8⟩ (fun _ => ?_)
      clear hK K
      try simp only [Act.put, List.getElem_toArray, List.getElem_cons_succ, List.getElem_cons_zero, List.setIfInBounds_toArray, List.set_cons_zero, List.set_cons_succ]
      refine wpAnyH_ready (rs := [11]) (by kernel_rfl) (by simp) ?_
      refine AllReadyH.cons rfl (fun K hK => ?_) AllReadyH.nil
      try rw [if_pos (by rfl)]
      go_simp
      refine hK.out _ _ ⟨S4, S5, _, _, _, _, _, _, _, _, S8⟩ (fun _ => ?_)
      clear hK K
      try simp only [Act.put, List.getElem_toArray, List.getElem_cons_succ, List.getElem_cons_zero, List.setIfInBounds_toArray, List.set_cons_zero, List.set_cons_succ]
      refine wpAnyH_done (by kernel_rfl) ?_ _
      go_wp2_with fail
      exact bodyPost_ret (results_six_tmp (p := 8) (q := 9) Tryz.results26 _ (.int .i64 e9) rfl rfl S9) rfl ⟨none, 0, rfl, by unfold HeldT; exact ⟨none, 0, rfl⟩, below_only b3 on9 (by omega) b3.size⟩
end Go.Proofs.YtoifjjgakblhhaaGreatDoor

/- What Arith tells, by the document: two decimals. -/
namespace Go.Proofs.YtoifjjgakblhhaaGreatDoor
open Go.RowKit

set_option maxRecDepth 20000 in
set_option maxHeartbeats 12800000 in
theorem rfDec18 (lang : Int) (k : Int) (b : Bool) (n : Int) (t x : ByteArray) (q : List Val) (p : Option Addr) (cap : Nat) (k2 : Int) (b2 : Bool) (n2 : Int) (t2 x2 : ByteArray) (q2 : List Val) (p2 : Option Addr) (cap2 : Nat) (w : World) (k9 n9 : Int) (t9 : ByteArray) (e9 : Int) (m1 m2 : Bool) (hc1 : ∀ W, Below w.heap.size w W → Calls Tryz.prog 14 #[.agg #[.int .i64 k, .bool b, .int .i64 n, .string t, .string x, .slice p q.length cap]] W fun e w' => e = .returned (.bool m1) ∧ Below W.heap.size W w') (hc2 : ∀ W, Below w.heap.size w W → Calls Tryz.prog 14 #[.agg #[.int .i64 k2, .bool b2, .int .i64 n2, .string t2, .string x2, .slice p2 q2.length cap2]] W fun e w' => e = .returned (.bool m2) ∧ Below W.heap.size W w') (e1 : m1 = true) (e2 : m2 = true) (ez1 : (k == 0) = false) (ez2 : (k2 == 0) = false) (jl kk a2 c2 : Bool) (el : (lang != 1) = jl) (ek : (k == k2) = kk) (y4 : (k == 4) = false) (y5 : (k == 5) = false) (u1 : (k == 2 || k == 3) = true) (u2 : (k2 == 2 || k2 == 3) = true) (v1 : (k == 2) = a2) (v2 : (k2 == 2) = c2) (hh : (a2 && c2) = false) (s s2 X : ByteArray) (c : Int) (ha : ∀ W, Below w.heap.size w W → Calls Tryz.prog 48 #[.agg #[.int .i64 k, .bool b, .int .i64 n, .string t, .string x, .slice p q.length cap]] W fun e w' => e = .returned (.string s) ∧ Below W.heap.size W w') (hb : ∀ W, Below w.heap.size w W → Calls Tryz.prog 48 #[.agg #[.int .i64 k2, .bool b2, .int .i64 n2, .string t2, .string x2, .slice p2 q2.length cap2]] W fun e w' => e = .returned (.string s2) ∧ Below W.heap.size W w') (hc : ∀ W, Below w.heap.size w W → Calls Tryz.prog 64 #[.string s, .string s2] W fun e w' => e = .returned (.tuple #[.string X, .int .i64 c]) ∧ Below W.heap.size W w') (hd : ∀ W, Below w.heap.size w W → Calls Tryz.prog 62 #[.string X, .int .i64 c] W (RPost W k9 n9 t9 e9)) :
    Calls Tryz.prog 26 #[.int .i64 lang, .int .i64 18, .agg #[.int .i64 k, .bool b, .int .i64 n, .string t, .string x, .slice p q.length cap], .agg #[.int .i64 k2, .bool b2, .int .i64 n2, .string t2, .string x2, .slice p2 q2.length cap2]] w (APost w k9 n9 t9 [] e9) := by
  obtain ⟨W0, hW0⟩ : ∃ W0, W0 = ((w.alloc (.cells #[.int .i64 k, .bool b, .int .i64 n, .string t, .string x, .slice p q.length cap] 28)).alloc (.cells #[.int .i64 k2, .bool b2, .int .i64 n2, .string t2, .string x2, .slice p2 q2.length cap2] 28)).alloc (.cells #[.int .i64 0, .bool false, .int .i64 0, .string ⟨#[]⟩, .string ⟨#[]⟩, .slice none 0 0] 28) := ⟨_, rfl⟩
  have S4 : Six W0 w.heap.size k b n t x p q.length cap := by rw [hW0]; exact ((six_new _ rfl).alloc _).alloc _
  have S5 : Six W0 (w.heap.size + 1) k2 b2 n2 t2 x2 p2 q2.length cap2 := by rw [hW0]; exact (six_new _ (by simp)).alloc _
  have S8 : Six W0 (w.heap.size + 2) 0 false 0 ⟨#[]⟩ ⟨#[]⟩ none 0 0 := by rw [hW0]; exact six_new _ (by simp)
  have b0 : Below w.heap.size w W0 := by rw [hW0]; exact below3 _ _ _ _
  have f0 := S4.c0
  have g0 := S5.c0
  have f2 := S4.c2
  have g2 := S5.c2
  have f3 := S4.c3
  have g3 := S5.c3
  have f5 := S4.c5
  have g5 := S5.c5
  have H0 := Lib.hid hW0
  clear hW0
  have hn1 := fun W => refNumberAt k b n t x p q.length cap W
  have hn2 := fun W => refNumberAt k2 b2 n2 t2 x2 p2 q2.length cap2 W
  unfold RPost at hd
  rw [u1] at hn1
  rw [u2] at hn2
  clear u1 u2
  subst e1 e2
  have hA := Lib.hid ha
  have hB := Lib.hid hb
  have hC := Lib.hid hc
  have hD := Lib.hid hd
  clear ha hb hc hd
  have hns : a2 = false ∨ (a2 = true ∧ c2 = false) := by cases a2 <;> cases c2 <;> simp at hh ⊢
  clear hh
  rcases hns with rfl | ⟨rfl, rfl⟩
  all_goals
    cases jl
    all_goals
      go_enter Tryz.func26, Tryz.ntmps26
      go_wp2_with (first
        | ((try rw [← H0.out]); (with_reducible refine wpList_load6 (.tmp 6) w.heap.size S4 ?_ ?_ ?_ ?_); rfl; rfl; rfl)
        | ((try rw [← H0.out]); (with_reducible refine wpList_load6g (.tmp 6) w.heap.size S4 ?_ ?_ ?_ ?_); rfl; rfl; rfl)
        | ((try rw [← H0.out]); (with_reducible refine wpList_load6 (.tmp 7) (w.heap.size + 1) S5 ?_ ?_ ?_ ?_); rfl; rfl; rfl)
        | ((try rw [← H0.out]); (with_reducible refine wpList_load6g (.tmp 7) (w.heap.size + 1) S5 ?_ ?_ ?_ ?_); rfl; rfl; rfl)
        | (go_at_call 14; (try rw [← H0.out]); (with_reducible refine (hc1 _ b0).mono ?_); rintro e w' ⟨rfl, hb⟩; replace S4 := S4.below hb; replace S5 := S5.below hb; replace S8 := S8.below hb; replace b0 := below_any b0 hb b0.size; have f0 := S4.c0; have g0 := S5.c0; have f2 := S4.c2; have g2 := S5.c2; have f3 := S4.c3; have g3 := S5.c3; have f5 := S4.c5; have g5 := S5.c5; clear hb)
        | (go_at_call 14; (try rw [← H0.out]); (with_reducible refine (hc2 _ b0).mono ?_); rintro e w' ⟨rfl, hb⟩; replace S4 := S4.below hb; replace S5 := S5.below hb; replace S8 := S8.below hb; replace b0 := below_any b0 hb b0.size; have f0 := S4.c0; have g0 := S5.c0; have f2 := S4.c2; have g2 := S5.c2; have f3 := S4.c3; have g3 := S5.c3; have f5 := S4.c5; have g5 := S5.c5; clear hb)
        | (go_at_call 45; (try rw [← H0.out]); (with_reducible refine (hn1 _).mono ?_); rintro e w' ⟨rfl, hb⟩; replace S4 := S4.below hb; replace S5 := S5.below hb; replace S8 := S8.below hb; replace b0 := below_any b0 hb b0.size; have f0 := S4.c0; have g0 := S5.c0; have f2 := S4.c2; have g2 := S5.c2; have f3 := S4.c3; have g3 := S5.c3; have f5 := S4.c5; have g5 := S5.c5; clear hb)
        | (go_at_call 45; (try rw [← H0.out]); (with_reducible refine (hn2 _).mono ?_); rintro e w' ⟨rfl, hb⟩; replace S4 := S4.below hb; replace S5 := S5.below hb; replace S8 := S8.below hb; replace b0 := below_any b0 hb b0.size; have f0 := S4.c0; have g0 := S5.c0; have f2 := S4.c2; have g2 := S5.c2; have f3 := S4.c3; have g3 := S5.c3; have f5 := S4.c5; have g5 := S5.c5; clear hb))
      refine wp_region_held_drew (S := fun w' => Six w' w.heap.size k b n t x p q.length cap ∧ Six w' (w.heap.size + 1) k2 b2 n2 t2 x2 p2 q2.length cap2 ∧ ∃ k8 b8 n8 t8 x8 p8 l8 m8, Six w' (w.heap.size + 2) k8 b8 n8 t8 x8 p8 l8 m8) (by kernel_rfl) ⟨S4, S5, _, _, _, _, _, _, _, _, S8⟩ (fun hHeld => ?_)
      replace b0 := b0.drew
      clear S4 S5 S8
      obtain ⟨S4, S5, k8, b8, n8, t8, x8, p8, l8, m8, S8⟩ := hHeld
      refine wpAnyH_take (i := 0) rfl (by kernel_rfl) (by kernel_rfl) (by kernel_rfl) (fun _ _ _ h => h) (yields6 (by rfl) (.tmp 6) rfl w.heap.size rfl (fun _ h => h.1)) ⟨S4, S5, _, _, _, _, _, _, _, _, S8⟩ ?_
      try simp only [Act.put, List.getElem_toArray, List.getElem_cons_succ, List.getElem_cons_zero, List.setIfInBounds_toArray, List.set_cons_zero, List.set_cons_succ]
      refine wpAnyH_take (i := 2) rfl (by kernel_rfl) (by kernel_rfl) (by kernel_rfl) (fun _ _ _ h => h) (yields6 (by rfl) (.tmp 7) rfl (w.heap.size + 1) rfl (fun _ h => h.2.1)) ⟨S4, S5, _, _, _, _, _, _, _, _, S8⟩ ?_
      try simp only [Act.put, List.getElem_toArray, List.getElem_cons_succ, List.getElem_cons_zero, List.setIfInBounds_toArray, List.set_cons_zero, List.set_cons_succ]
      refine wpAnyH_ready (rs := [1]) (by kernel_rfl) (by simp) ?_
      refine AllReadyH.cons rfl (fun K hK => ?_) AllReadyH.nil
      rw [if_pos (by rfl)]
      go_simp
      refine (hA.out _ b0).mono ?_
      rintro e w3 ⟨rfl, hb⟩
      replace S4 := S4.below hb
      replace S5 := S5.below hb
      replace S8 := S8.below hb
      replace b0 := below_any b0 hb b0.size
      clear hb
      refine hK.out _ _ ⟨S4, S5, _, _, _, _, _, _, _, _, S8⟩ (fun _ => ?_)
      clear hK K
      try simp only [Act.put, List.getElem_toArray, List.getElem_cons_succ, List.getElem_cons_zero, List.setIfInBounds_toArray, List.set_cons_zero, List.set_cons_succ]
      refine wpAnyH_ready (rs := [3]) (by kernel_rfl) (by simp) ?_
      refine AllReadyH.cons rfl (fun K hK => ?_) AllReadyH.nil
      rw [if_pos (by rfl)]
      go_simp
      refine (hB.out _ b0).mono ?_
      rintro e w3 ⟨rfl, hb⟩
      replace S4 := S4.below hb
      replace S5 := S5.below hb
      replace S8 := S8.below hb
      replace b0 := below_any b0 hb b0.size
      clear hb
      refine hK.out _ _ ⟨S4, S5, _, _, _, _, _, _, _, _, S8⟩ (fun _ => ?_)
      clear hK K
      try simp only [Act.put, List.getElem_toArray, List.getElem_cons_succ, List.getElem_cons_zero, List.setIfInBounds_toArray, List.set_cons_zero, List.set_cons_succ]
      refine wpAnyH_ready (rs := [4]) (by kernel_rfl) (by simp) ?_
      refine AllReadyH.cons rfl (fun K hK => ?_) AllReadyH.nil
      rw [if_pos (by rfl)]
      go_simp
      refine (hC.out _ b0).mono ?_
      rintro e w3 ⟨rfl, hb⟩
      replace S4 := S4.below hb
      replace S5 := S5.below hb
      replace S8 := S8.below hb
      replace b0 := below_any b0 hb b0.size
      clear hb
      refine hK.out _ _ ⟨S4, S5, _, _, _, _, _, _, _, _, S8⟩ (fun _ => ?_)
      clear hK K
      try simp only [Act.put, List.getElem_toArray, List.getElem_cons_succ, List.getElem_cons_zero, List.setIfInBounds_toArray, List.set_cons_zero, List.set_cons_succ]
      refine wpAnyH_take (i := 5) (v := .string X) rfl (by kernel_rfl) (by kernel_rfl) (by kernel_rfl) (fun _ _ _ h => h) (Or.inl ⟨by rfl, fun W _ => by go_simp⟩) ⟨S4, S5, _, _, _, _, _, _, _, _, S8⟩ ?_
      try simp only [Act.put, List.getElem_toArray, List.getElem_cons_succ, List.getElem_cons_zero, List.setIfInBounds_toArray, List.set_cons_zero, List.set_cons_succ]
      refine wpAnyH_take (i := 6) (v := .int .i64 c) rfl (by kernel_rfl) (by kernel_rfl) (by kernel_rfl) (fun _ _ _ h => h) (Or.inl ⟨by rfl, fun W _ => by go_simp⟩) ⟨S4, S5, _, _, _, _, _, _, _, _, S8⟩ ?_
      try simp only [Act.put, List.getElem_toArray, List.getElem_cons_succ, List.getElem_cons_zero, List.setIfInBounds_toArray, List.set_cons_zero, List.set_cons_succ]
      refine wpAnyH_ready (rs := [7]) (by kernel_rfl) (by simp) ?_
      refine AllReadyH.cons rfl (fun K hK => ?_) AllReadyH.nil
      rw [if_pos (by rfl)]
      go_simp
      refine (hD.out _ b0).mono ?_
      rintro e w3 ⟨rfl, hb⟩
      replace S4 := S4.below hb
      replace S5 := S5.below hb
      replace S8 := S8.below hb
      replace b0 := below_any b0 hb b0.size
      clear hb
      refine hK.out _ _ ⟨S4, S5, _, _, _, _, _, _, _, _, S8⟩ (fun _ => ?_)
      clear hK K
      try simp only [Act.put, List.getElem_toArray, List.getElem_cons_succ, List.getElem_cons_zero, List.setIfInBounds_toArray, List.set_cons_zero, List.set_cons_succ]
      refine wpAnyH_take (i := 8) (v := .agg #[.int .i64 k9, .bool false, .int .i64 n9, .string t9, .string ⟨#[]⟩, .slice none 0 0]) rfl (by kernel_rfl) (by kernel_rfl) (by kernel_rfl) (fun _ _ _ h => h) (Or.inl ⟨by rfl, fun W _ => by go_simp⟩) ⟨S4, S5, _, _, _, _, _, _, _, _, S8⟩ ?_
      try simp only [Act.put, List.getElem_toArray, List.getElem_cons_succ, List.getElem_cons_zero, List.setIfInBounds_toArray, List.set_cons_zero, List.set_cons_succ]
      refine wpAnyH_take (i := 9) (v := .int .i64 e9) rfl (by kernel_rfl) (by kernel_rfl) (by kernel_rfl) (fun _ _ _ h => h) (Or.inl ⟨by rfl, fun W _ => by go_simp⟩) ⟨S4, S5, _, _, _, _, _, _, _, _, S8⟩ ?_
      try simp only [Act.put, List.getElem_toArray, List.getElem_cons_succ, List.getElem_cons_zero, List.setIfInBounds_toArray, List.set_cons_zero, List.set_cons_succ]
      have z3 := S8.lt
      have b3 := b0
      refine wpAnyH_ready (rs := [10]) (by kernel_rfl) (by simp) ?_
      refine AllReadyH.cons rfl (fun K hK => ?_) AllReadyH.nil
      try rw [if_pos (by rfl)]
      refine wp_store6 (k' := k9) (b' := false) (n' := n9) (t' := t9) (x' := ⟨#[]⟩) (p' := none) (len' := 0) (cap' := 0) (.tmp 8) (.tmp 154) rfl (w.heap.size + 2) S8 rfl rfl ?_
      intro w9 on9 S9
      replace S4 := S4.only on9 (by omega)
      replace S5 := S5.only on9 (by omega)
      replace S8 := S9
      refine hK.out _ _ ⟨S4, S5, _, _, _, _, _, _, _, _, S8⟩ (fun _ => ?_)
      clear hK K
      try simp only [Act.put, List.getElem_toArray, List.getElem_cons_succ, List.getElem_cons_zero, List.setIfInBounds_toArray, List.set_cons_zero, List.set_cons_succ]
      refine wpAnyH_ready (rs := [11]) (by kernel_rfl) (by simp) ?_
      refine AllReadyH.cons rfl (fun K hK => ?_) AllReadyH.nil
      try rw [if_pos (by rfl)]
      go_simp
      refine hK.out _ _ ⟨S4, S5, _, _, _, _, _, _, _, _, S8⟩ (fun _ => ?_)
      clear hK K
      try simp only [Act.put, List.getElem_toArray, List.getElem_cons_succ, List.getElem_cons_zero, List.setIfInBounds_toArray, List.set_cons_zero, List.set_cons_succ]
      refine wpAnyH_done (by kernel_rfl) ?_ _
      go_wp2_with fail
      exact bodyPost_ret (results_six_tmp (p := 8) (q := 9) Tryz.results26 _ (.int .i64 e9) rfl rfl S9) rfl ⟨none, 0, rfl, by unfold HeldT; exact ⟨none, 0, rfl⟩, below_only b3 on9 (by omega) b3.size⟩
end Go.Proofs.YtoifjjgakblhhaaGreatDoor

/- What Arith tells, by the document: two decimals. -/
namespace Go.Proofs.YtoifjjgakblhhaaGreatDoor
open Go.RowKit

set_option maxRecDepth 20000 in
set_option maxHeartbeats 12800000 in
theorem rfDec19 (lang : Int) (k : Int) (b : Bool) (n : Int) (t x : ByteArray) (q : List Val) (p : Option Addr) (cap : Nat) (k2 : Int) (b2 : Bool) (n2 : Int) (t2 x2 : ByteArray) (q2 : List Val) (p2 : Option Addr) (cap2 : Nat) (w : World) (k9 n9 : Int) (t9 : ByteArray) (e9 : Int) (m1 m2 : Bool) (hc1 : ∀ W, Below w.heap.size w W → Calls Tryz.prog 14 #[.agg #[.int .i64 k, .bool b, .int .i64 n, .string t, .string x, .slice p q.length cap]] W fun e w' => e = .returned (.bool m1) ∧ Below W.heap.size W w') (hc2 : ∀ W, Below w.heap.size w W → Calls Tryz.prog 14 #[.agg #[.int .i64 k2, .bool b2, .int .i64 n2, .string t2, .string x2, .slice p2 q2.length cap2]] W fun e w' => e = .returned (.bool m2) ∧ Below W.heap.size W w') (e1 : m1 = true) (e2 : m2 = true) (ez1 : (k == 0) = false) (ez2 : (k2 == 0) = false) (jl kk a2 c2 : Bool) (el : (lang != 1) = jl) (ek : (k == k2) = kk) (y4 : (k == 4) = false) (y5 : (k == 5) = false) (u1 : (k == 2 || k == 3) = true) (u2 : (k2 == 2 || k2 == 3) = true) (v1 : (k == 2) = a2) (v2 : (k2 == 2) = c2) (hh : (a2 && c2) = false) (s s2 X : ByteArray) (c : Int) (ha : ∀ W, Below w.heap.size w W → Calls Tryz.prog 48 #[.agg #[.int .i64 k, .bool b, .int .i64 n, .string t, .string x, .slice p q.length cap]] W fun e w' => e = .returned (.string s) ∧ Below W.heap.size W w') (hb : ∀ W, Below w.heap.size w W → Calls Tryz.prog 48 #[.agg #[.int .i64 k2, .bool b2, .int .i64 n2, .string t2, .string x2, .slice p2 q2.length cap2]] W fun e w' => e = .returned (.string s2) ∧ Below W.heap.size W w') (hc : ∀ W, Below w.heap.size w W → Calls Tryz.prog 65 #[.string s, .string s2] W fun e w' => e = .returned (.tuple #[.string X, .int .i64 c]) ∧ Below W.heap.size W w') (hd : ∀ W, Below w.heap.size w W → Calls Tryz.prog 62 #[.string X, .int .i64 c] W (RPost W k9 n9 t9 e9)) :
    Calls Tryz.prog 26 #[.int .i64 lang, .int .i64 19, .agg #[.int .i64 k, .bool b, .int .i64 n, .string t, .string x, .slice p q.length cap], .agg #[.int .i64 k2, .bool b2, .int .i64 n2, .string t2, .string x2, .slice p2 q2.length cap2]] w (APost w k9 n9 t9 [] e9) := by
  obtain ⟨W0, hW0⟩ : ∃ W0, W0 = ((w.alloc (.cells #[.int .i64 k, .bool b, .int .i64 n, .string t, .string x, .slice p q.length cap] 28)).alloc (.cells #[.int .i64 k2, .bool b2, .int .i64 n2, .string t2, .string x2, .slice p2 q2.length cap2] 28)).alloc (.cells #[.int .i64 0, .bool false, .int .i64 0, .string ⟨#[]⟩, .string ⟨#[]⟩, .slice none 0 0] 28) := ⟨_, rfl⟩
  have S4 : Six W0 w.heap.size k b n t x p q.length cap := by rw [hW0]; exact ((six_new _ rfl).alloc _).alloc _
  have S5 : Six W0 (w.heap.size + 1) k2 b2 n2 t2 x2 p2 q2.length cap2 := by rw [hW0]; exact (six_new _ (by simp)).alloc _
  have S8 : Six W0 (w.heap.size + 2) 0 false 0 ⟨#[]⟩ ⟨#[]⟩ none 0 0 := by rw [hW0]; exact six_new _ (by simp)
  have b0 : Below w.heap.size w W0 := by rw [hW0]; exact below3 _ _ _ _
  have f0 := S4.c0
  have g0 := S5.c0
  have f2 := S4.c2
  have g2 := S5.c2
  have f3 := S4.c3
  have g3 := S5.c3
  have f5 := S4.c5
  have g5 := S5.c5
  have H0 := Lib.hid hW0
  clear hW0
  have hn1 := fun W => refNumberAt k b n t x p q.length cap W
  have hn2 := fun W => refNumberAt k2 b2 n2 t2 x2 p2 q2.length cap2 W
  unfold RPost at hd
  rw [u1] at hn1
  rw [u2] at hn2
  clear u1 u2
  subst e1 e2
  have hA := Lib.hid ha
  have hB := Lib.hid hb
  have hC := Lib.hid hc
  have hD := Lib.hid hd
  clear ha hb hc hd
  have hns : a2 = false ∨ (a2 = true ∧ c2 = false) := by cases a2 <;> cases c2 <;> simp at hh ⊢
  clear hh
  rcases hns with rfl | ⟨rfl, rfl⟩
  all_goals
    cases jl
    all_goals
      go_enter Tryz.func26, Tryz.ntmps26
      go_wp2_with (first
        | ((try rw [← H0.out]); (with_reducible refine wpList_load6 (.tmp 6) w.heap.size S4 ?_ ?_ ?_ ?_); rfl; rfl; rfl)
        | ((try rw [← H0.out]); (with_reducible refine wpList_load6g (.tmp 6) w.heap.size S4 ?_ ?_ ?_ ?_); rfl; rfl; rfl)
        | ((try rw [← H0.out]); (with_reducible refine wpList_load6 (.tmp 7) (w.heap.size + 1) S5 ?_ ?_ ?_ ?_); rfl; rfl; rfl)
        | ((try rw [← H0.out]); (with_reducible refine wpList_load6g (.tmp 7) (w.heap.size + 1) S5 ?_ ?_ ?_ ?_); rfl; rfl; rfl)
        | (go_at_call 14; (try rw [← H0.out]); (with_reducible refine (hc1 _ b0).mono ?_); rintro e w' ⟨rfl, hb⟩; replace S4 := S4.below hb; replace S5 := S5.below hb; replace S8 := S8.below hb; replace b0 := below_any b0 hb b0.size; have f0 := S4.c0; have g0 := S5.c0; have f2 := S4.c2; have g2 := S5.c2; have f3 := S4.c3; have g3 := S5.c3; have f5 := S4.c5; have g5 := S5.c5; clear hb)
        | (go_at_call 14; (try rw [← H0.out]); (with_reducible refine (hc2 _ b0).mono ?_); rintro e w' ⟨rfl, hb⟩; replace S4 := S4.below hb; replace S5 := S5.below hb; replace S8 := S8.below hb; replace b0 := below_any b0 hb b0.size; have f0 := S4.c0; have g0 := S5.c0; have f2 := S4.c2; have g2 := S5.c2; have f3 := S4.c3; have g3 := S5.c3; have f5 := S4.c5; have g5 := S5.c5; clear hb)
        | (go_at_call 45; (try rw [← H0.out]); (with_reducible refine (hn1 _).mono ?_); rintro e w' ⟨rfl, hb⟩; replace S4 := S4.below hb; replace S5 := S5.below hb; replace S8 := S8.below hb; replace b0 := below_any b0 hb b0.size; have f0 := S4.c0; have g0 := S5.c0; have f2 := S4.c2; have g2 := S5.c2; have f3 := S4.c3; have g3 := S5.c3; have f5 := S4.c5; have g5 := S5.c5; clear hb)
        | (go_at_call 45; (try rw [← H0.out]); (with_reducible refine (hn2 _).mono ?_); rintro e w' ⟨rfl, hb⟩; replace S4 := S4.below hb; replace S5 := S5.below hb; replace S8 := S8.below hb; replace b0 := below_any b0 hb b0.size; have f0 := S4.c0; have g0 := S5.c0; have f2 := S4.c2; have g2 := S5.c2; have f3 := S4.c3; have g3 := S5.c3; have f5 := S4.c5; have g5 := S5.c5; clear hb))
      refine wp_region_held_drew (S := fun w' => Six w' w.heap.size k b n t x p q.length cap ∧ Six w' (w.heap.size + 1) k2 b2 n2 t2 x2 p2 q2.length cap2 ∧ ∃ k8 b8 n8 t8 x8 p8 l8 m8, Six w' (w.heap.size + 2) k8 b8 n8 t8 x8 p8 l8 m8) (by kernel_rfl) ⟨S4, S5, _, _, _, _, _, _, _, _, S8⟩ (fun hHeld => ?_)
      replace b0 := b0.drew
      clear S4 S5 S8
      obtain ⟨S4, S5, k8, b8, n8, t8, x8, p8, l8, m8, S8⟩ := hHeld
      refine wpAnyH_take (i := 0) rfl (by kernel_rfl) (by kernel_rfl) (by kernel_rfl) (fun _ _ _ h => h) (yields6 (by rfl) (.tmp 6) rfl w.heap.size rfl (fun _ h => h.1)) ⟨S4, S5, _, _, _, _, _, _, _, _, S8⟩ ?_
      try simp only [Act.put, List.getElem_toArray, List.getElem_cons_succ, List.getElem_cons_zero, List.setIfInBounds_toArray, List.set_cons_zero, List.set_cons_succ]
      refine wpAnyH_take (i := 2) rfl (by kernel_rfl) (by kernel_rfl) (by kernel_rfl) (fun _ _ _ h => h) (yields6 (by rfl) (.tmp 7) rfl (w.heap.size + 1) rfl (fun _ h => h.2.1)) ⟨S4, S5, _, _, _, _, _, _, _, _, S8⟩ ?_
      try simp only [Act.put, List.getElem_toArray, List.getElem_cons_succ, List.getElem_cons_zero, List.setIfInBounds_toArray, List.set_cons_zero, List.set_cons_succ]
      refine wpAnyH_ready (rs := [1]) (by kernel_rfl) (by simp) ?_
      refine AllReadyH.cons rfl (fun K hK => ?_) AllReadyH.nil
      rw [if_pos (by rfl)]
      go_simp
      refine (hA.out _ b0).mono ?_
      rintro e w3 ⟨rfl, hb⟩
      replace S4 := S4.below hb
      replace S5 := S5.below hb
      replace S8 := S8.below hb
      replace b0 := below_any b0 hb b0.size
      clear hb
      refine hK.out _ _ ⟨S4, S5, _, _, _, _, _, _, _, _, S8⟩ (fun _ => ?_)
      clear hK K
      try simp only [Act.put, List.getElem_toArray, List.getElem_cons_succ, List.getElem_cons_zero, List.setIfInBounds_toArray, List.set_cons_zero, List.set_cons_succ]
      refine wpAnyH_ready (rs := [3]) (by kernel_rfl) (by simp) ?_
      refine AllReadyH.cons rfl (fun K hK => ?_) AllReadyH.nil
      rw [if_pos (by rfl)]
      go_simp
      refine (hB.out _ b0).mono ?_
      rintro e w3 ⟨rfl, hb⟩
      replace S4 := S4.below hb
      replace S5 := S5.below hb
      replace S8 := S8.below hb
      replace b0 := below_any b0 hb b0.size
      clear hb
      refine hK.out _ _ ⟨S4, S5, _, _, _, _, _, _, _, _, S8⟩ (fun _ => ?_)
      clear hK K
      try simp only [Act.put, List.getElem_toArray, List.getElem_cons_succ, List.getElem_cons_zero, List.setIfInBounds_toArray, List.set_cons_zero, List.set_cons_succ]
      refine wpAnyH_ready (rs := [4]) (by kernel_rfl) (by simp) ?_
      refine AllReadyH.cons rfl (fun K hK => ?_) AllReadyH.nil
      rw [if_pos (by rfl)]
      go_simp
      refine (hC.out _ b0).mono ?_
      rintro e w3 ⟨rfl, hb⟩
      replace S4 := S4.below hb
      replace S5 := S5.below hb
      replace S8 := S8.below hb
      replace b0 := below_any b0 hb b0.size
      clear hb
      refine hK.out _ _ ⟨S4, S5, _, _, _, _, _, _, _, _, S8⟩ (fun _ => ?_)
      clear hK K
      try simp only [Act.put, List.getElem_toArray, List.getElem_cons_succ, List.getElem_cons_zero, List.setIfInBounds_toArray, List.set_cons_zero, List.set_cons_succ]
      refine wpAnyH_take (i := 5) (v := .string X) rfl (by kernel_rfl) (by kernel_rfl) (by kernel_rfl) (fun _ _ _ h => h) (Or.inl ⟨by rfl, fun W _ => by go_simp⟩) ⟨S4, S5, _, _, _, _, _, _, _, _, S8⟩ ?_
      try simp only [Act.put, List.getElem_toArray, List.getElem_cons_succ, List.getElem_cons_zero, List.setIfInBounds_toArray, List.set_cons_zero, List.set_cons_succ]
      refine wpAnyH_take (i := 6) (v := .int .i64 c) rfl (by kernel_rfl) (by kernel_rfl) (by kernel_rfl) (fun _ _ _ h => h) (Or.inl ⟨by rfl, fun W _ => by go_simp⟩) ⟨S4, S5, _, _, _, _, _, _, _, _, S8⟩ ?_
      try simp only [Act.put, List.getElem_toArray, List.getElem_cons_succ, List.getElem_cons_zero, List.setIfInBounds_toArray, List.set_cons_zero, List.set_cons_succ]
      refine wpAnyH_ready (rs := [7]) (by kernel_rfl) (by simp) ?_
      refine AllReadyH.cons rfl (fun K hK => ?_) AllReadyH.nil
      rw [if_pos (by rfl)]
      go_simp
      refine (hD.out _ b0).mono ?_
      rintro e w3 ⟨rfl, hb⟩
      replace S4 := S4.below hb
      replace S5 := S5.below hb
      replace S8 := S8.below hb
      replace b0 := below_any b0 hb b0.size
      clear hb
      refine hK.out _ _ ⟨S4, S5, _, _, _, _, _, _, _, _, S8⟩ (fun _ => ?_)
      clear hK K
      try simp only [Act.put, List.getElem_toArray, List.getElem_cons_succ, List.getElem_cons_zero, List.setIfInBounds_toArray, List.set_cons_zero, List.set_cons_succ]
      refine wpAnyH_take (i := 8) (v := .agg #[.int .i64 k9, .bool false, .int .i64 n9, .string t9, .string ⟨#[]⟩, .slice none 0 0]) rfl (by kernel_rfl) (by kernel_rfl) (by kernel_rfl) (fun _ _ _ h => h) (Or.inl ⟨by rfl, fun W _ => by go_simp⟩) ⟨S4, S5, _, _, _, _, _, _, _, _, S8⟩ ?_
      try simp only [Act.put, List.getElem_toArray, List.getElem_cons_succ, List.getElem_cons_zero, List.setIfInBounds_toArray, List.set_cons_zero, List.set_cons_succ]
      refine wpAnyH_take (i := 9) (v := .int .i64 e9) rfl (by kernel_rfl) (by kernel_rfl) (by kernel_rfl) (fun _ _ _ h => h) (Or.inl ⟨by rfl, fun W _ => by go_simp⟩) ⟨S4, S5, _, _, _, _, _, _, _, _, S8⟩ ?_
      try simp only [Act.put, List.getElem_toArray, List.getElem_cons_succ, List.getElem_cons_zero, List.setIfInBounds_toArray, List.set_cons_zero, List.set_cons_succ]
      have z3 := S8.lt
      have b3 := b0
      refine wpAnyH_ready (rs := [10]) (by kernel_rfl) (by simp) ?_
      refine AllReadyH.cons rfl (fun K hK => ?_) AllReadyH.nil
      try rw [if_pos (by rfl)]
      refine wp_store6 (k' := k9) (b' := false) (n' := n9) (t' := t9) (x' := ⟨#[]⟩) (p' := none) (len' := 0) (cap' := 0) (.tmp 8) (.tmp 166) rfl (w.heap.size + 2) S8 rfl rfl ?_
      intro w9 on9 S9
      replace S4 := S4.only on9 (by omega)
      replace S5 := S5.only on9 (by omega)
      replace S8 := S9
      refine hK.out _ _ ⟨S4, S5, _, _, _, _, _, _, _, _, S8⟩ (fun _ => ?_)
      clear hK K
      try simp only [Act.put, List.getElem_toArray, List.getElem_cons_succ, List.getElem_cons_zero, List.setIfInBounds_toArray, List.set_cons_zero, List.set_cons_succ]
      refine wpAnyH_ready (rs := [11]) (by kernel_rfl) (by simp) ?_
      refine AllReadyH.cons rfl (fun K hK => ?_) AllReadyH.nil
      try rw [if_pos (by rfl)]
      go_simp
      refine hK.out _ _ ⟨S4, S5, _, _, _, _, _, _, _, _, S8⟩ (fun _ => ?_)
      clear hK K
      try simp only [Act.put, List.getElem_toArray, List.getElem_cons_succ, List.getElem_cons_zero, List.setIfInBounds_toArray, List.set_cons_zero, List.set_cons_succ]
      refine wpAnyH_done (by kernel_rfl) ?_ _
      go_wp2_with fail
      exact bodyPost_ret (results_six_tmp (p := 8) (q := 9) Tryz.results26 _ (.int .i64 e9) rfl rfl S9) rfl ⟨none, 0, rfl, by unfold HeldT; exact ⟨none, 0, rfl⟩, below_only b3 on9 (by omega) b3.size⟩
end Go.Proofs.YtoifjjgakblhhaaGreatDoor
