/- parseBoth. -/
import Derived.Test.YtoifjjgakblhhaaDoorB4m
import Derived.Test.YtoifjjgakblhhaaDoorB2m
namespace Go.Proofs.YtoifjjgakblhhaaDoor
open Go.RowKit

theorem parseDec (s : ByteArray) (w : World) (hG : Gd w) (hs : s.size < 4294967281) (h : chk s.data.toList = true) :
    Calls Tryd.prog 49 #[.string s] w fun e w' => ∃ c f, e = .returned (.tuple #[.agg c, .bool true]) ∧ IsNum c (dsign s.data.toList) f ∧ wval f = damt s.data.toList ∧ Below w.heap.size w w' := by
  obtain ⟨n, a, b, hsp, ha, hb, la, lb, _, _⟩ := chk_parts _ h
  have e1 : dsign s.data.toList = n := by unfold dsign; rw [hsp]; rfl
  have e2 : damt s.data.toList = num54 a b := by unfold damt; rw [hsp]; rfl
  rw [e1, e2]
  exact parseYes s (bs a) (bs b) n w hG hs h hsp ha hb (by simpa [ByteArray.size] using la) (by simpa [ByteArray.size] using lb)

set_option maxRecDepth 20000 in
set_option maxHeartbeats 1600000 in
theorem bothYes (s t : ByteArray) (w : World) (hG : Gd w) (hs : s.size < 4294967281) (ht : t.size < 4294967281) (h : chk s.data.toList = true) (h2 : chk t.data.toList = true) :
    Calls Tryd.prog 41 #[.string s, .string t] w fun e w' => ∃ c d f g, e = .returned (.tuple #[.agg c, .agg d, .bool true]) ∧ IsNum c (dsign s.data.toList) f ∧ wval f = damt s.data.toList ∧
      IsNum d (dsign t.data.toList) g ∧ wval g = damt t.data.toList ∧ Below w.heap.size w w' := by
  have hc : ∀ W, Gd W → Calls Tryd.prog 49 #[.string s] W fun e w' => ∃ c f, e = .returned (.tuple #[.agg c, .bool true]) ∧ IsNum c (dsign s.data.toList) f ∧ wval f = damt s.data.toList ∧ Below W.heap.size W w' := fun W hW => parseDec s W hW hs h
  have hc2 : ∀ W, Gd W → Calls Tryd.prog 49 #[.string t] W fun e w' => ∃ c f, e = .returned (.tuple #[.agg c, .bool true]) ∧ IsNum c (dsign t.data.toList) f ∧ wval f = damt t.data.toList ∧ Below W.heap.size W w' := fun W hW => parseDec t W hW ht h2
  have HC := Lib.hid hc
  have HC2 := Lib.hid hc2
  generalize dsign s.data.toList = sn at *
  generalize damt s.data.toList = sx at *
  generalize dsign t.data.toList = tn at *
  generalize damt t.data.toList = tx at *
  clear hc hc2 h h2 hs ht
  have l1 : Lies ((w.alloc (.cells #[.bool false, .int .u32 0, .int .u32 0, .int .u32 0, .int .u32 0, .int .u32 0, .int .u32 0, .int .u32 0, .int .u32 0, .int .u32 0, .int .u32 0, .int .u32 0, .int .u32 0, .int .u32 0, .int .u32 0, .int .u32 0, .int .u32 0] 73)).alloc (.cells #[.bool false, .int .u32 0, .int .u32 0, .int .u32 0, .int .u32 0, .int .u32 0, .int .u32 0, .int .u32 0, .int .u32 0, .int .u32 0, .int .u32 0, .int .u32 0, .int .u32 0, .int .u32 0, .int .u32 0, .int .u32 0, .int .u32 0] 73)) w.heap.size zero59 false (fun _ => 0) := (lies_zero _ rfl).alloc _
  have l2 : Lies ((w.alloc (.cells #[.bool false, .int .u32 0, .int .u32 0, .int .u32 0, .int .u32 0, .int .u32 0, .int .u32 0, .int .u32 0, .int .u32 0, .int .u32 0, .int .u32 0, .int .u32 0, .int .u32 0, .int .u32 0, .int .u32 0, .int .u32 0, .int .u32 0] 73)).alloc (.cells #[.bool false, .int .u32 0, .int .u32 0, .int .u32 0, .int .u32 0, .int .u32 0, .int .u32 0, .int .u32 0, .int .u32 0, .int .u32 0, .int .u32 0, .int .u32 0, .int .u32 0, .int .u32 0, .int .u32 0, .int .u32 0, .int .u32 0] 73)) (w.heap.size + 1) zero59 false (fun _ => 0) := lies_zero _ (by simp)
  have g0 := (hG.alloc (.cells #[.bool false, .int .u32 0, .int .u32 0, .int .u32 0, .int .u32 0, .int .u32 0, .int .u32 0, .int .u32 0, .int .u32 0, .int .u32 0, .int .u32 0, .int .u32 0, .int .u32 0, .int .u32 0, .int .u32 0, .int .u32 0, .int .u32 0] 73)).alloc (.cells #[.bool false, .int .u32 0, .int .u32 0, .int .u32 0, .int .u32 0, .int .u32 0, .int .u32 0, .int .u32 0, .int .u32 0, .int .u32 0, .int .u32 0, .int .u32 0, .int .u32 0, .int .u32 0, .int .u32 0, .int .u32 0, .int .u32 0] 73)
  have hb0 := ((Below.refl w.heap.size w).alloc (Nat.le_refl _) (.cells #[.bool false, .int .u32 0, .int .u32 0, .int .u32 0, .int .u32 0, .int .u32 0, .int .u32 0, .int .u32 0, .int .u32 0, .int .u32 0, .int .u32 0, .int .u32 0, .int .u32 0, .int .u32 0, .int .u32 0, .int .u32 0, .int .u32 0] 73)).alloc (by simp) (.cells #[.bool false, .int .u32 0, .int .u32 0, .int .u32 0, .int .u32 0, .int .u32 0, .int .u32 0, .int .u32 0, .int .u32 0, .int .u32 0, .int .u32 0, .int .u32 0, .int .u32 0, .int .u32 0, .int .u32 0, .int .u32 0, .int .u32 0] 73)
  go_enter Tryd.func41, Tryd.ntmps41
  go_wp2_with (first
    | (go_at_call 49; (with_reducible refine (HC.out _ g0).mono ?_); rintro e w1 ⟨c, f, rfl, hn, hv, hb⟩; have HV := Lib.hid hv; clear hv; have q1 := l1.below hb; have q2 := l2.below hb; have g1 := g0.below hb; have hb1 := below_any hb0 hb (Nat.le_of_lt l1.lt))
    | ((with_reducible refine wpList_storeN (.tmp 4) (.tmp 10) w.heap.size (by assumption) hn ?_ ?_ ?_ ?_ ?_); rfl; rfl; rfl; rfl; intro w2 ho p1; have p2 := q2.only ho (by omega); have hb2 := below_only hb1 ho (Nat.le_refl _) (Nat.le_of_lt q1.lt); have g2 : Gd w2 := hG.below hb2)
    | (go_at_call 49; (with_reducible refine (HC2.out _ g2).mono ?_); rintro e w3 ⟨d, g, rfl, hnd, hvd, hb⟩; have HVD := Lib.hid hvd; clear hvd; have r1 := p1.below hb; have r2 := p2.below hb; have hb3 := below_any hb2 hb (Nat.le_of_lt p1.lt))
    | ((with_reducible refine wpList_storeN (.tmp 5) (.tmp 19) (w.heap.size + 1) (by assumption) hnd ?_ ?_ ?_ ?_ ?_); rfl; rfl; rfl; rfl; intro w4 ho4 m2; have m1 := r1.only ho4 (by omega); have hb4 := below_only hb3 ho4 (by omega) (Nat.le_of_lt r1.lt)))
  refine wp_region_held_drew (S := fun w' => Lies w' w.heap.size c sn f ∧ Lies w' (w.heap.size + 1) d tn g ∧ Below w.heap.size w w') (by kernel_rfl) ⟨m1, m2, hb4.drew⟩ (fun hHeld => ?_)
  refine wpAnyH_take (i := 0) rfl (by kernel_rfl) (by kernel_rfl) (by kernel_rfl) (fun _ _ _ h => h) (yieldsIf_loadN (by rfl) (.tmp 4) rfl w.heap.size rfl c sn f (fun _ h => h.1)) hHeld ?_
  try simp only [Act.put, List.setIfInBounds_toArray, List.set_cons_zero, List.set_cons_succ]
  refine wpAnyH_take (i := 1) rfl (by kernel_rfl) (by kernel_rfl) (by kernel_rfl) (fun _ _ _ h => h) (yieldsIf_loadN (by rfl) (.tmp 5) rfl (w.heap.size + 1) rfl d tn g (fun _ h => h.2.1)) hHeld ?_
  try simp only [Act.put, List.setIfInBounds_toArray, List.set_cons_zero, List.set_cons_succ]
  obtain ⟨u1, u2, u3⟩ := hHeld
  refine wpAnyH_ready (rs := [2]) (by kernel_rfl) (by simp) ?_
  refine AllReadyH.cons rfl (fun K hK => ?_) AllReadyH.nil
  rw [if_pos (by rfl)]
  refine wp_storeN (.tmp 4) (.tmp 25) rfl w.heap.size rfl rfl u1 hn (fun w5 ho5 x1 => ?_)
  refine hK.out _ _ ⟨x1, u2.only ho5 (by omega), below_only u3 ho5 (Nat.le_refl _) (Nat.le_of_lt u1.lt)⟩ (fun hHeld => ?_)
  clear hK K u1 u2 u3 x1 ho5
  try simp only [Act.put, List.setIfInBounds_toArray, List.set_cons_zero, List.set_cons_succ]
  obtain ⟨u1, u2, u3⟩ := hHeld
  refine wpAnyH_ready (rs := [3]) (by kernel_rfl) (by simp) ?_
  refine AllReadyH.cons rfl (fun K hK => ?_) AllReadyH.nil
  rw [if_pos (by rfl)]
  refine wp_storeN (.tmp 5) (.tmp 26) rfl (w.heap.size + 1) rfl rfl u2 hnd (fun w6 ho6 x2 => ?_)
  refine hK.out _ _ ⟨u1.only ho6 (by omega), x2, below_only u3 ho6 (by omega) (Nat.le_of_lt u1.lt)⟩ (fun hHeld => ?_)
  clear hK K u1 u2 u3 x2 ho6
  try simp only [Act.put, List.setIfInBounds_toArray, List.set_cons_zero, List.set_cons_succ]
  obtain ⟨u1, u2, u3⟩ := hHeld
  refine wpAnyH_ready (rs := [4]) (by kernel_rfl) (by simp) ?_
  refine AllReadyH.cons rfl (fun K hK => ?_) AllReadyH.nil
  go_simp
  refine hK.out _ _ ⟨u1, u2, u3⟩ (fun hHeld => ?_)
  clear hK K hHeld
  try simp only [Act.put, List.setIfInBounds_toArray, List.set_cons_zero, List.set_cons_succ]
  refine wpAnyH_done (by kernel_rfl) ?_ _
  go_wp2_with fail
  exact bodyPost_ret (v := .tuple #[.agg c, .agg d, .bool true]) (results_num2_tmp (p := 4) (p2 := 5) (q := 6) Tryd.results41 _ (.bool true) rfl rfl rfl u1 u2) rfl ⟨c, d, f, g, rfl, hn, HV.out, hnd, HVD.out, u3⟩

set_option maxRecDepth 20000 in
set_option maxHeartbeats 1600000 in
theorem bothNo1 (s t : ByteArray) (w : World) (hG : Gd w) (hs : s.size < 4294967281) (h : chk s.data.toList = false) :
    Calls Tryd.prog 41 #[.string s, .string t] w fun e w' => e = .returned (.tuple #[.agg zero59, .agg zero59, .bool false]) ∧ Below w.heap.size w w' := by
  have hc : ∀ W, Gd W → Calls Tryd.prog 49 #[.string s] W fun e w' => e = .returned (.tuple #[.agg zero59, .bool false]) ∧ Below W.heap.size W w' := fun W hW => parseNo s W hW hs h
  have HC := Lib.hid hc
  clear hc h hs
  have l1 : Lies ((w.alloc (.cells #[.bool false, .int .u32 0, .int .u32 0, .int .u32 0, .int .u32 0, .int .u32 0, .int .u32 0, .int .u32 0, .int .u32 0, .int .u32 0, .int .u32 0, .int .u32 0, .int .u32 0, .int .u32 0, .int .u32 0, .int .u32 0, .int .u32 0] 73)).alloc (.cells #[.bool false, .int .u32 0, .int .u32 0, .int .u32 0, .int .u32 0, .int .u32 0, .int .u32 0, .int .u32 0, .int .u32 0, .int .u32 0, .int .u32 0, .int .u32 0, .int .u32 0, .int .u32 0, .int .u32 0, .int .u32 0, .int .u32 0] 73)) w.heap.size zero59 false (fun _ => 0) := (lies_zero _ rfl).alloc _
  have l2 : Lies ((w.alloc (.cells #[.bool false, .int .u32 0, .int .u32 0, .int .u32 0, .int .u32 0, .int .u32 0, .int .u32 0, .int .u32 0, .int .u32 0, .int .u32 0, .int .u32 0, .int .u32 0, .int .u32 0, .int .u32 0, .int .u32 0, .int .u32 0, .int .u32 0] 73)).alloc (.cells #[.bool false, .int .u32 0, .int .u32 0, .int .u32 0, .int .u32 0, .int .u32 0, .int .u32 0, .int .u32 0, .int .u32 0, .int .u32 0, .int .u32 0, .int .u32 0, .int .u32 0, .int .u32 0, .int .u32 0, .int .u32 0, .int .u32 0] 73)) (w.heap.size + 1) zero59 false (fun _ => 0) := lies_zero _ (by simp)
  have g0 := (hG.alloc (.cells #[.bool false, .int .u32 0, .int .u32 0, .int .u32 0, .int .u32 0, .int .u32 0, .int .u32 0, .int .u32 0, .int .u32 0, .int .u32 0, .int .u32 0, .int .u32 0, .int .u32 0, .int .u32 0, .int .u32 0, .int .u32 0, .int .u32 0] 73)).alloc (.cells #[.bool false, .int .u32 0, .int .u32 0, .int .u32 0, .int .u32 0, .int .u32 0, .int .u32 0, .int .u32 0, .int .u32 0, .int .u32 0, .int .u32 0, .int .u32 0, .int .u32 0, .int .u32 0, .int .u32 0, .int .u32 0, .int .u32 0] 73)
  have hb0 := ((Below.refl w.heap.size w).alloc (Nat.le_refl _) (.cells #[.bool false, .int .u32 0, .int .u32 0, .int .u32 0, .int .u32 0, .int .u32 0, .int .u32 0, .int .u32 0, .int .u32 0, .int .u32 0, .int .u32 0, .int .u32 0, .int .u32 0, .int .u32 0, .int .u32 0, .int .u32 0, .int .u32 0] 73)).alloc (by simp) (.cells #[.bool false, .int .u32 0, .int .u32 0, .int .u32 0, .int .u32 0, .int .u32 0, .int .u32 0, .int .u32 0, .int .u32 0, .int .u32 0, .int .u32 0, .int .u32 0, .int .u32 0, .int .u32 0, .int .u32 0, .int .u32 0, .int .u32 0] 73)
  go_enter Tryd.func41, Tryd.ntmps41
  go_wp2_with (first
    | (go_at_call 49; (with_reducible refine (HC.out _ g0).mono ?_); rintro e w1 ⟨rfl, hb⟩; have q1 := l1.below hb; have q2 := l2.below hb; have hb1 := below_any hb0 hb (Nat.le_of_lt l1.lt))
    | ((with_reducible refine wpList_storeN (.tmp 4) (.tmp 10) w.heap.size (by assumption) isNum_zero ?_ ?_ ?_ ?_ ?_); rfl; rfl; rfl; rfl; intro w2 ho p1; have p2 := q2.only ho (by omega); have hb2 := below_only hb1 ho (Nat.le_refl _) (Nat.le_of_lt q1.lt))
    | ((with_reducible refine wpList_storeN (.tmp 4) (.tmp 14) w.heap.size (by assumption) isNum_zero ?_ ?_ ?_ ?_ ?_); rfl; rfl; rfl; rfl; intro w3 ho3 r1; have r2 := p2.only ho3 (by omega); have hb3 := below_only hb2 ho3 (Nat.le_refl _) (Nat.le_of_lt p1.lt))
    | ((with_reducible refine wpList_storeN (.tmp 5) (.tmp 15) (w.heap.size + 1) (by assumption) isNum_zero ?_ ?_ ?_ ?_ ?_); rfl; rfl; rfl; rfl; intro w4 ho4 m2; have m1 := r1.only ho4 (by omega); have hb4 := below_only hb3 ho4 (by omega) (Nat.le_of_lt r1.lt)))
  exact bodyPost_ret (v := .tuple #[.agg zero59, .agg zero59, .bool false]) (results_num2_tmp (p := 4) (p2 := 5) (q := 6) Tryd.results41 _ (.bool false) rfl rfl rfl m1 m2) rfl ⟨rfl, hb4⟩

set_option maxRecDepth 20000 in
set_option maxHeartbeats 1600000 in
theorem bothNo2 (s t : ByteArray) (w : World) (hG : Gd w) (hs : s.size < 4294967281) (ht : t.size < 4294967281) (h : chk s.data.toList = true) (h2 : chk t.data.toList = false) :
    Calls Tryd.prog 41 #[.string s, .string t] w fun e w' => e = .returned (.tuple #[.agg zero59, .agg zero59, .bool false]) ∧ Below w.heap.size w w' := by
  have hc : ∀ W, Gd W → Calls Tryd.prog 49 #[.string s] W fun e w' => ∃ c f, e = .returned (.tuple #[.agg c, .bool true]) ∧ IsNum c (dsign s.data.toList) f ∧ wval f = damt s.data.toList ∧ Below W.heap.size W w' := fun W hW => parseDec s W hW hs h
  have hc2 : ∀ W, Gd W → Calls Tryd.prog 49 #[.string t] W fun e w' => e = .returned (.tuple #[.agg zero59, .bool false]) ∧ Below W.heap.size W w' := fun W hW => parseNo t W hW ht h2
  have HC := Lib.hid hc
  have HC2 := Lib.hid hc2
  generalize dsign s.data.toList = sn at *
  generalize damt s.data.toList = sx at *
  clear hc hc2 h h2 hs ht
  have l1 : Lies ((w.alloc (.cells #[.bool false, .int .u32 0, .int .u32 0, .int .u32 0, .int .u32 0, .int .u32 0, .int .u32 0, .int .u32 0, .int .u32 0, .int .u32 0, .int .u32 0, .int .u32 0, .int .u32 0, .int .u32 0, .int .u32 0, .int .u32 0, .int .u32 0] 73)).alloc (.cells #[.bool false, .int .u32 0, .int .u32 0, .int .u32 0, .int .u32 0, .int .u32 0, .int .u32 0, .int .u32 0, .int .u32 0, .int .u32 0, .int .u32 0, .int .u32 0, .int .u32 0, .int .u32 0, .int .u32 0, .int .u32 0, .int .u32 0] 73)) w.heap.size zero59 false (fun _ => 0) := (lies_zero _ rfl).alloc _
  have l2 : Lies ((w.alloc (.cells #[.bool false, .int .u32 0, .int .u32 0, .int .u32 0, .int .u32 0, .int .u32 0, .int .u32 0, .int .u32 0, .int .u32 0, .int .u32 0, .int .u32 0, .int .u32 0, .int .u32 0, .int .u32 0, .int .u32 0, .int .u32 0, .int .u32 0] 73)).alloc (.cells #[.bool false, .int .u32 0, .int .u32 0, .int .u32 0, .int .u32 0, .int .u32 0, .int .u32 0, .int .u32 0, .int .u32 0, .int .u32 0, .int .u32 0, .int .u32 0, .int .u32 0, .int .u32 0, .int .u32 0, .int .u32 0, .int .u32 0] 73)) (w.heap.size + 1) zero59 false (fun _ => 0) := lies_zero _ (by simp)
  have g0 := (hG.alloc (.cells #[.bool false, .int .u32 0, .int .u32 0, .int .u32 0, .int .u32 0, .int .u32 0, .int .u32 0, .int .u32 0, .int .u32 0, .int .u32 0, .int .u32 0, .int .u32 0, .int .u32 0, .int .u32 0, .int .u32 0, .int .u32 0, .int .u32 0] 73)).alloc (.cells #[.bool false, .int .u32 0, .int .u32 0, .int .u32 0, .int .u32 0, .int .u32 0, .int .u32 0, .int .u32 0, .int .u32 0, .int .u32 0, .int .u32 0, .int .u32 0, .int .u32 0, .int .u32 0, .int .u32 0, .int .u32 0, .int .u32 0] 73)
  have hb0 := ((Below.refl w.heap.size w).alloc (Nat.le_refl _) (.cells #[.bool false, .int .u32 0, .int .u32 0, .int .u32 0, .int .u32 0, .int .u32 0, .int .u32 0, .int .u32 0, .int .u32 0, .int .u32 0, .int .u32 0, .int .u32 0, .int .u32 0, .int .u32 0, .int .u32 0, .int .u32 0, .int .u32 0] 73)).alloc (by simp) (.cells #[.bool false, .int .u32 0, .int .u32 0, .int .u32 0, .int .u32 0, .int .u32 0, .int .u32 0, .int .u32 0, .int .u32 0, .int .u32 0, .int .u32 0, .int .u32 0, .int .u32 0, .int .u32 0, .int .u32 0, .int .u32 0, .int .u32 0] 73)
  go_enter Tryd.func41, Tryd.ntmps41
  go_wp2_with (first
    | (go_at_call 49; (with_reducible refine (HC.out _ g0).mono ?_); rintro e w1 ⟨c, f, rfl, hn, hv, hb⟩; clear hv; have q1 := l1.below hb; have q2 := l2.below hb; have g1 := g0.below hb; have hb1 := below_any hb0 hb (Nat.le_of_lt l1.lt))
    | ((with_reducible refine wpList_storeN (.tmp 4) (.tmp 10) w.heap.size (by assumption) hn ?_ ?_ ?_ ?_ ?_); rfl; rfl; rfl; rfl; intro w2 ho p1; have p2 := q2.only ho (by omega); have hb2 := below_only hb1 ho (Nat.le_refl _) (Nat.le_of_lt q1.lt); have g2 : Gd w2 := hG.below hb2)
    | (go_at_call 49; (with_reducible refine (HC2.out _ g2).mono ?_); rintro e w3 ⟨rfl, hb⟩; have r1 := p1.below hb; have r2 := p2.below hb; have hb3 := below_any hb2 hb (Nat.le_of_lt p1.lt))
    | ((with_reducible refine wpList_storeN (.tmp 5) (.tmp 19) (w.heap.size + 1) (by assumption) isNum_zero ?_ ?_ ?_ ?_ ?_); rfl; rfl; rfl; rfl; intro w4 ho4 m2; have m1 := r1.only ho4 (by omega); have hb4 := below_only hb3 ho4 (by omega) (Nat.le_of_lt r1.lt))
    | ((with_reducible refine wpList_storeN (.tmp 4) (.tmp 23) w.heap.size (by assumption) isNum_zero ?_ ?_ ?_ ?_ ?_); rfl; rfl; rfl; rfl; intro w5 ho5 n1; have n2 := m2.only ho5 (by omega); have hb5 := below_only hb4 ho5 (Nat.le_refl _) (Nat.le_of_lt m1.lt))
    | ((with_reducible refine wpList_storeN (.tmp 5) (.tmp 24) (w.heap.size + 1) (by assumption) isNum_zero ?_ ?_ ?_ ?_ ?_); rfl; rfl; rfl; rfl; intro w6 ho6 y2; have y1 := n1.only ho6 (by omega); have hb6 := below_only hb5 ho6 (by omega) (Nat.le_of_lt n1.lt)))
  exact bodyPost_ret (v := .tuple #[.agg zero59, .agg zero59, .bool false]) (results_num2_tmp (p := 4) (p2 := 5) (q := 6) Tryd.results41 _ (.bool false) rfl rfl rfl y1 y2) rfl ⟨rfl, hb6⟩

end Go.Proofs.YtoifjjgakblhhaaDoor
