/- How any two values stand: Order. -/
import Derived.Test.YtoifjjgakblhhaaGreatDoorODm
namespace Go.Proofs.YtoifjjgakblhhaaGreatDoor
open Go.RowKit

set_option maxRecDepth 20000 in
set_option maxHeartbeats 6400000 in
theorem ord_step (v : Val) (k : Int) (b : Bool) (n : Int) (t x : ByteArray) (q : List Val) (ev : v = .mk k b n t x q) (each : ∀ u ∈ q, OrdAt u) : OrdAt v := by
  subst ev
  intro lang w k1 b1 n1 t1 x1 q1 p cap v2 k2 b2 n2 t2 x2 q2 p2 cap2 e1 e2 hG hT hf hf2 hl hl2
  cases e1
  subst e2
  obtain ⟨W0, hW0⟩ : ∃ W0, W0 = (w.alloc (.cells #[.int .i64 k, .bool b, .int .i64 n, .string t, .string x, .slice p q.length cap] 28)).alloc (.cells #[.int .i64 k2, .bool b2, .int .i64 n2, .string t2, .string x2, .slice p2 q2.length cap2] 28) := ⟨_, rfl⟩
  have S4 : Six W0 w.heap.size k b n t x p q.length cap := by rw [hW0]; exact (six_new _ rfl).alloc _
  have S5 : Six W0 (w.heap.size + 1) k2 b2 n2 t2 x2 p2 q2.length cap2 := by rw [hW0]; exact six_new _ (by simp)
  have b0 : Below w.heap.size w W0 := by rw [hW0]; exact below2 _ _ _
  have hwi := fun (hr : rankI lang k = rankI lang k2) W (h : Below w.heap.size w W) => withinAt lang k b n t x q p cap k2 b2 n2 t2 x2 q2 p2 cap2 W hr (hG.below h) (hT.below h) hf hf2 (Held.below q hl h) (Held.below q2 hl2 h) each
  have hr1 := fun W => rankAt lang k b n t x p q.length cap W
  have hr2 := fun W => rankAt lang k2 b2 n2 t2 x2 p2 q2.length cap2 W
  rw [orderI_mk, ← withinI_mk]
  generalize withinI lang (.mk k b n t x q) (.mk k2 b2 n2 t2 x2 q2) = r at hwi ⊢
  generalize rankI lang k = ra at hwi hr1 ⊢
  generalize rankI lang k2 = rb at hwi hr2 ⊢
  have H0 := Lib.hid hW0
  clear hW0 hl hl2 hf hf2 hG hT each
  obtain ⟨z, hz⟩ : ∃ z, z = lexI (cmpZ ra rb) r := ⟨_, rfl⟩
  rw [← hz]
  go_enter Tryz.func23, Tryz.ntmps23
  go_upto_region 2 with fail
  rw [← H0.out]
  refine wp_region_held_drew (S := fun w' => Six w' w.heap.size k b n t x p q.length cap ∧ Six w' (w.heap.size + 1) k2 b2 n2 t2 x2 p2 q2.length cap2 ∧ Below w.heap.size w w') (by kernel_rfl) ⟨S4, S5, b0.drew⟩ (fun hHeld => ?_)
  refine wpAnyH_take (i := 0) (v := .int .i64 lang) rfl (by kernel_rfl) (by kernel_rfl) (by kernel_rfl) (fun _ _ _ h => h) (Or.inl ⟨by rfl, fun W _ => by go_simp⟩) hHeld ?_
  try simp only [Act.put, List.getElem_toArray, List.getElem_cons_succ, List.getElem_cons_zero, List.setIfInBounds_toArray, List.set_cons_zero, List.set_cons_succ]
  refine wpAnyH_take (i := 1) rfl (by kernel_rfl) (by kernel_rfl) (by kernel_rfl) (fun _ _ _ h => h) (yields6 (by rfl) (.tmp 4) rfl w.heap.size rfl (fun _ h => h.1)) hHeld ?_
  try simp only [Act.put, List.getElem_toArray, List.getElem_cons_succ, List.getElem_cons_zero, List.setIfInBounds_toArray, List.set_cons_zero, List.set_cons_succ]
  refine wpAnyH_take (i := 3) (v := .int .i64 lang) rfl (by kernel_rfl) (by kernel_rfl) (by kernel_rfl) (fun _ _ _ h => h) (Or.inl ⟨by rfl, fun W _ => by go_simp⟩) hHeld ?_
  try simp only [Act.put, List.getElem_toArray, List.getElem_cons_succ, List.getElem_cons_zero, List.setIfInBounds_toArray, List.set_cons_zero, List.set_cons_succ]
  refine wpAnyH_take (i := 4) rfl (by kernel_rfl) (by kernel_rfl) (by kernel_rfl) (fun _ _ _ h => h) (yields6 (by rfl) (.tmp 5) rfl (w.heap.size + 1) rfl (fun _ h => h.2.1)) hHeld ?_
  try simp only [Act.put, List.getElem_toArray, List.getElem_cons_succ, List.getElem_cons_zero, List.setIfInBounds_toArray, List.set_cons_zero, List.set_cons_succ]
  obtain ⟨u1, u2, u3⟩ := hHeld
  refine wpAnyH_ready (rs := [2]) (by kernel_rfl) (by simp) ?_
  refine AllReadyH.cons rfl (fun K hK => ?_) AllReadyH.nil
  rw [if_pos (by rfl)]
  go_simp
  refine (hr1 _).mono ?_
  rintro e w3 ⟨rfl, hb⟩
  refine hK.out _ _ ⟨u1.below hb, u2.below hb, below_any u3 hb u3.size⟩ (fun hHeld => ?_)
  clear hK K u1 u2 u3 hb
  try simp only [Act.put, List.getElem_toArray, List.getElem_cons_succ, List.getElem_cons_zero, List.setIfInBounds_toArray, List.set_cons_zero, List.set_cons_succ]
  obtain ⟨u1, u2, u3⟩ := hHeld
  refine wpAnyH_ready (rs := [5]) (by kernel_rfl) (by simp) ?_
  refine AllReadyH.cons rfl (fun K hK => ?_) AllReadyH.nil
  rw [if_pos (by rfl)]
  go_simp
  refine (hr2 _).mono ?_
  rintro e w3 ⟨rfl, hb⟩
  refine hK.out _ _ ⟨u1.below hb, u2.below hb, below_any u3 hb u3.size⟩ (fun hHeld => ?_)
  clear hK K u1 u2 u3 hb
  try simp only [Act.put, List.getElem_toArray, List.getElem_cons_succ, List.getElem_cons_zero, List.setIfInBounds_toArray, List.set_cons_zero, List.set_cons_succ]
  refine wpAnyH_take (i := 6) (v := .int .i64 ra) rfl (by kernel_rfl) (by kernel_rfl) (by kernel_rfl) (fun _ _ _ h => h) (Or.inl ⟨by rfl, fun W _ => by go_simp⟩) hHeld ?_
  try simp only [Act.put, List.getElem_toArray, List.getElem_cons_succ, List.getElem_cons_zero, List.setIfInBounds_toArray, List.set_cons_zero, List.set_cons_succ]
  refine wpAnyH_take (i := 7) (v := .int .i64 rb) rfl (by kernel_rfl) (by kernel_rfl) (by kernel_rfl) (fun _ _ _ h => h) (Or.inl ⟨by rfl, fun W _ => by go_simp⟩) hHeld ?_
  try simp only [Act.put, List.getElem_toArray, List.getElem_cons_succ, List.getElem_cons_zero, List.setIfInBounds_toArray, List.set_cons_zero, List.set_cons_succ]
  refine wpAnyH_done (by kernel_rfl) ?_ _
  obtain ⟨u1, u2, u3⟩ := hHeld
  have H1 := Lib.hid hz
  clear hz
  by_cases h1 : ra < rb
  · obtain rfl : z = -1 := by rw [H1.out]; unfold cmpZ; rw [if_pos h1]; rfl
    clear H1 hwi
    go_wp2_with fail
    go_ret
    exact ⟨rfl, u3⟩
  · by_cases h2 : rb < ra
    · obtain rfl : z = 1 := by rw [H1.out]; unfold cmpZ; rw [if_neg h1, if_pos h2]; rfl
      clear H1 hwi
      go_wp2_with fail
      go_ret
      exact ⟨rfl, u3⟩
    · obtain rfl : ra = rb := by omega
      obtain rfl : z = r := by rw [H1.out, cmpZ_same, lexI_zero]
      replace hwi := hwi rfl
      clear H1
      go_wp2_with (first
        | ((with_reducible refine wpList_load6 (.tmp 4) w.heap.size u1 ?_ ?_ ?_ ?_); rfl; rfl; rfl)
        | ((with_reducible refine wpList_load6 (.tmp 5) (w.heap.size + 1) u2 ?_ ?_ ?_ ?_); rfl; rfl; rfl)
        | (go_at_call 55; (with_reducible refine (hwi _ u3).mono ?_); rintro e w3 ⟨rfl, hb⟩; replace u3 := below_any u3 hb u3.size; clear hb))
      go_ret
      exact ⟨rfl, u3⟩

mutual
theorem ordAll : (v : Val) → OrdAt v
  | .mk k b n t x q => ord_step _ k b n t x q rfl (ordEach q)
theorem ordEach : (q : List Val) → ∀ u ∈ q, OrdAt u
  | [], _, h => absurd h (by simp)
  | v :: r, u, h => by
    rcases List.mem_cons.1 h with h | h
    · rw [h]; exact ordAll v
    · exact ordEach r u h
end

end Go.Proofs.YtoifjjgakblhhaaGreatDoor
