/- Texts of one kind, one behind the other: each says ahead of itself what it shows. -/
import Derived.Test.YtoifjjgakblhhaaGreatDoorHai
import Derived.Test.YtoifjjgakblhhaaGreatDoorHag
/- parseBoth. -/
namespace Go.Proofs.YtoifjjgakblhhaaGreatDoor
open Go.RowKit

theorem parseDec (s : ByteArray) (w : World) (hG : Gd w) (hs : s.size < 4294967281) (h : chk s.data.toList = true) :
    Calls Tryz.prog 151 #[.string s] w fun e w' => ∃ c f, e = .returned (.tuple #[.agg c, .bool true]) ∧ IsNum c (dsign s.data.toList) f ∧ wval f = damt s.data.toList ∧ Below w.heap.size w w' := by
  obtain ⟨n, a, b, hsp, ha, hb, la, lb, _, _⟩ := chk_parts _ h
  have e1 : dsign s.data.toList = n := by unfold dsign; rw [hsp]; rfl
  have e2 : damt s.data.toList = num54 a b := by unfold damt; rw [hsp]; rfl
  rw [e1, e2]
  exact parseYes s (bs a) (bs b) n w hG hs h hsp ha hb (by simpa [ByteArray.size] using la) (by simpa [ByteArray.size] using lb)

set_option maxRecDepth 20000 in
set_option maxHeartbeats 1600000 in
theorem bothYes (s t : ByteArray) (w : World) (hG : Gd w) (hs : s.size < 4294967281) (ht : t.size < 4294967281) (h : chk s.data.toList = true) (h2 : chk t.data.toList = true) :
    Calls Tryz.prog 128 #[.string s, .string t] w fun e w' => ∃ c d f g, e = .returned (.tuple #[.agg c, .agg d, .bool true]) ∧ IsNum c (dsign s.data.toList) f ∧ wval f = damt s.data.toList ∧
      IsNum d (dsign t.data.toList) g ∧ wval g = damt t.data.toList ∧ Below w.heap.size w w' := by
  have hc : ∀ W, Gd W → Calls Tryz.prog 151 #[.string s] W fun e w' => ∃ c f, e = .returned (.tuple #[.agg c, .bool true]) ∧ IsNum c (dsign s.data.toList) f ∧ wval f = damt s.data.toList ∧ Below W.heap.size W w' := fun W hW => parseDec s W hW hs h
  have hc2 : ∀ W, Gd W → Calls Tryz.prog 151 #[.string t] W fun e w' => ∃ c f, e = .returned (.tuple #[.agg c, .bool true]) ∧ IsNum c (dsign t.data.toList) f ∧ wval f = damt t.data.toList ∧ Below W.heap.size W w' := fun W hW => parseDec t W hW ht h2
  have HC := Lib.hid hc
  have HC2 := Lib.hid hc2
  generalize dsign s.data.toList = sn at *
  generalize damt s.data.toList = sx at *
  generalize dsign t.data.toList = tn at *
  generalize damt t.data.toList = tx at *
  clear hc hc2 h h2 hs ht
  have l1 : Lies ((w.alloc (.cells #[.bool false, .int .u32 0, .int .u32 0, .int .u32 0, .int .u32 0, .int .u32 0, .int .u32 0, .int .u32 0, .int .u32 0, .int .u32 0, .int .u32 0, .int .u32 0, .int .u32 0, .int .u32 0, .int .u32 0, .int .u32 0, .int .u32 0] 136)).alloc (.cells #[.bool false, .int .u32 0, .int .u32 0, .int .u32 0, .int .u32 0, .int .u32 0, .int .u32 0, .int .u32 0, .int .u32 0, .int .u32 0, .int .u32 0, .int .u32 0, .int .u32 0, .int .u32 0, .int .u32 0, .int .u32 0, .int .u32 0] 136)) w.heap.size zero59 false (fun _ => 0) := (lies_zero _ rfl).alloc _
  have l2 : Lies ((w.alloc (.cells #[.bool false, .int .u32 0, .int .u32 0, .int .u32 0, .int .u32 0, .int .u32 0, .int .u32 0, .int .u32 0, .int .u32 0, .int .u32 0, .int .u32 0, .int .u32 0, .int .u32 0, .int .u32 0, .int .u32 0, .int .u32 0, .int .u32 0] 136)).alloc (.cells #[.bool false, .int .u32 0, .int .u32 0, .int .u32 0, .int .u32 0, .int .u32 0, .int .u32 0, .int .u32 0, .int .u32 0, .int .u32 0, .int .u32 0, .int .u32 0, .int .u32 0, .int .u32 0, .int .u32 0, .int .u32 0, .int .u32 0] 136)) (w.heap.size + 1) zero59 false (fun _ => 0) := lies_zero _ (by simp)
  have g0 := (hG.alloc (.cells #[.bool false, .int .u32 0, .int .u32 0, .int .u32 0, .int .u32 0, .int .u32 0, .int .u32 0, .int .u32 0, .int .u32 0, .int .u32 0, .int .u32 0, .int .u32 0, .int .u32 0, .int .u32 0, .int .u32 0, .int .u32 0, .int .u32 0] 136)).alloc (.cells #[.bool false, .int .u32 0, .int .u32 0, .int .u32 0, .int .u32 0, .int .u32 0, .int .u32 0, .int .u32 0, .int .u32 0, .int .u32 0, .int .u32 0, .int .u32 0, .int .u32 0, .int .u32 0, .int .u32 0, .int .u32 0, .int .u32 0] 136)
  have hb0 := ((Below.refl w.heap.size w).alloc (Nat.le_refl _) (.cells #[.bool false, .int .u32 0, .int .u32 0, .int .u32 0, .int .u32 0, .int .u32 0, .int .u32 0, .int .u32 0, .int .u32 0, .int .u32 0, .int .u32 0, .int .u32 0, .int .u32 0, .int .u32 0, .int .u32 0, .int .u32 0, .int .u32 0] 136)).alloc (by simp) (.cells #[.bool false, .int .u32 0, .int .u32 0, .int .u32 0, .int .u32 0, .int .u32 0, .int .u32 0, .int .u32 0, .int .u32 0, .int .u32 0, .int .u32 0, .int .u32 0, .int .u32 0, .int .u32 0, .int .u32 0, .int .u32 0, .int .u32 0] 136)
  go_enter Tryz.func128, Tryz.ntmps128
  go_wp2_with (first
    | (go_at_call 151; (with_reducible refine (HC.out _ g0).mono ?_); rintro e w1 ⟨c, f, rfl, hn, hv, hb⟩; have HV := Lib.hid hv; clear hv; have q1 := l1.below hb; have q2 := l2.below hb; have g1 := g0.below hb; have hb1 := below_any hb0 hb (Nat.le_of_lt l1.lt))
    | ((with_reducible refine wpList_storeN (.tmp 4) (.tmp 10) w.heap.size (by assumption) hn ?_ ?_ ?_ ?_ ?_); rfl; rfl; rfl; rfl; intro w2 ho p1; have p2 := q2.only ho (by omega); have hb2 := below_only hb1 ho (Nat.le_refl _) (Nat.le_of_lt q1.lt); have g2 : Gd w2 := hG.below hb2)
    | (go_at_call 151; (with_reducible refine (HC2.out _ g2).mono ?_); rintro e w3 ⟨d, g, rfl, hnd, hvd, hb⟩; have HVD := Lib.hid hvd; clear hvd; have r1 := p1.below hb; have r2 := p2.below hb; have hb3 := below_any hb2 hb (Nat.le_of_lt p1.lt))
    | ((with_reducible refine wpList_storeN (.tmp 5) (.tmp 19) (w.heap.size + 1) (by assumption) hnd ?_ ?_ ?_ ?_ ?_); rfl; rfl; rfl; rfl; intro w4 ho4 m2; have m1 := r1.only ho4 (by omega); have hb4 := below_only hb3 ho4 (by omega) (Nat.le_of_lt r1.lt)))
  refine wp_region_held_drew (S := fun w' => Lies w' w.heap.size c sn f ∧ Lies w' (w.heap.size + 1) d tn g ∧ Below w.heap.size w w') (by kernel_rfl) ⟨m1, m2, hb4.drew⟩ (fun hHeld => ?_)
  refine wpAnyH_take (i := 0) rfl (by kernel_rfl) (by kernel_rfl) (by kernel_rfl) (fun _ _ _ h => h) (yieldsIf_loadN (by rfl) (.tmp 4) rfl w.heap.size rfl c sn f (fun _ h => h.1)) hHeld ?_
  try simp only [Act.put, List.setIfInBounds_toArray, List.set_cons_zero, List.set_cons_succ]
  refine wpAnyH_take (i := 1) rfl (by kernel_rfl) (by kernel_rfl) (by kernel_rfl) (fun _ _ _ h => h) (yieldsIf_loadN (by rfl) (.tmp 5) rfl (w.heap.size + 1) rfl d tn g (fun _ h => h.2.1)) hHeld ?_
  try simp only [Act.put, List.setIfInBounds_toArray, List.set_cons_zero, List.set_cons_succ]
  obtain ⟨u1, u2, u3⟩ := hHeld
  refine wpAnyH_ready (rs := [2]) (by kernel_rfl) (by simp) ?_
  refine AllReadyH.cons rfl (fun K hK => ?_) AllReadyH.nil
  rw [if_pos (by rfl)]
  refine wp_storeN (.tmp 4) (.tmp 25) rfl w.heap.size rfl rfl u1 hn (fun w5 ho5 x1 => ?_)
  refine hK.out _ _ ⟨x1, u2.only ho5 (by omega), below_only u3 ho5 (Nat.le_refl _) (Nat.le_of_lt u1.lt)⟩ (fun hHeld => ?_)
  clear hK K u1 u2 u3 x1 ho5
  try simp only [Act.put, List.setIfInBounds_toArray, List.set_cons_zero, List.set_cons_succ]
  obtain ⟨u1, u2, u3⟩ := hHeld
  refine wpAnyH_ready (rs := [3]) (by kernel_rfl) (by simp) ?_
  refine AllReadyH.cons rfl (fun K hK => ?_) AllReadyH.nil
  rw [if_pos (by rfl)]
  refine wp_storeN (.tmp 5) (.tmp 26) rfl (w.heap.size + 1) rfl rfl u2 hnd (fun w6 ho6 x2 => ?_)
  refine hK.out _ _ ⟨u1.only ho6 (by omega), x2, below_only u3 ho6 (by omega) (Nat.le_of_lt u1.lt)⟩ (fun hHeld => ?_)
  clear hK K u1 u2 u3 x2 ho6
  try simp only [Act.put, List.setIfInBounds_toArray, List.set_cons_zero, List.set_cons_succ]
  obtain ⟨u1, u2, u3⟩ := hHeld
  refine wpAnyH_ready (rs := [4]) (by kernel_rfl) (by simp) ?_
  refine AllReadyH.cons rfl (fun K hK => ?_) AllReadyH.nil
  go_simp
  refine hK.out _ _ ⟨u1, u2, u3⟩ (fun hHeld => ?_)
  clear hK K hHeld
  try simp only [Act.put, List.setIfInBounds_toArray, List.set_cons_zero, List.set_cons_succ]
  refine wpAnyH_done (by kernel_rfl) ?_ _
  go_wp2_with fail
  exact bodyPost_ret (v := .tuple #[.agg c, .agg d, .bool true]) (results_num2_tmp (p := 4) (p2 := 5) (q := 6) Tryz.results128 _ (.bool true) rfl rfl rfl u1 u2) rfl ⟨c, d, f, g, rfl, hn, HV.out, hnd, HVD.out, u3⟩

set_option maxRecDepth 20000 in
set_option maxHeartbeats 1600000 in
theorem bothNo1 (s t : ByteArray) (w : World) (hG : Gd w) (hs : s.size < 4294967281) (h : chk s.data.toList = false) :
    Calls Tryz.prog 128 #[.string s, .string t] w fun e w' => e = .returned (.tuple #[.agg zero59, .agg zero59, .bool false]) ∧ Below w.heap.size w w' := by
  have hc : ∀ W, Gd W → Calls Tryz.prog 151 #[.string s] W fun e w' => e = .returned (.tuple #[.agg zero59, .bool false]) ∧ Below W.heap.size W w' := fun W hW => parseNo s W hW hs h
  have HC := Lib.hid hc
  clear hc h hs
  have l1 : Lies ((w.alloc (.cells #[.bool false, .int .u32 0, .int .u32 0, .int .u32 0, .int .u32 0, .int .u32 0, .int .u32 0, .int .u32 0, .int .u32 0, .int .u32 0, .int .u32 0, .int .u32 0, .int .u32 0, .int .u32 0, .int .u32 0, .int .u32 0, .int .u32 0] 136)).alloc (.cells #[.bool false, .int .u32 0, .int .u32 0, .int .u32 0, .int .u32 0, .int .u32 0, .int .u32 0, .int .u32 0, .int .u32 0, .int .u32 0, .int .u32 0, .int .u32 0, .int .u32 0, .int .u32 0, .int .u32 0, .int .u32 0, .int .u32 0] 136)) w.heap.size zero59 false (fun _ => 0) := (lies_zero _ rfl).alloc _
  have l2 : Lies ((w.alloc (.cells #[.bool false, .int .u32 0, .int .u32 0, .int .u32 0, .int .u32 0, .int .u32 0, .int .u32 0, .int .u32 0, .int .u32 0, .int .u32 0, .int .u32 0, .int .u32 0, .int .u32 0, .int .u32 0, .int .u32 0, .int .u32 0, .int .u32 0] 136)).alloc (.cells #[.bool false, .int .u32 0, .int .u32 0, .int .u32 0, .int .u32 0, .int .u32 0, .int .u32 0, .int .u32 0, .int .u32 0, .int .u32 0, .int .u32 0, .int .u32 0, .int .u32 0, .int .u32 0, .int .u32 0, .int .u32 0, .int .u32 0] 136)) (w.heap.size + 1) zero59 false (fun _ => 0) := lies_zero _ (by simp)
  have g0 := (hG.alloc (.cells #[.bool false, .int .u32 0, .int .u32 0, .int .u32 0, .int .u32 0, .int .u32 0, .int .u32 0, .int .u32 0, .int .u32 0, .int .u32 0, .int .u32 0, .int .u32 0, .int .u32 0, .int .u32 0, .int .u32 0, .int .u32 0, .int .u32 0] 136)).alloc (.cells #[.bool false, .int .u32 0, .int .u32 0, .int .u32 0, .int .u32 0, .int .u32 0, .int .u32 0, .int .u32 0, .int .u32 0, .int .u32 0, .int .u32 0, .int .u32 0, .int .u32 0, .int .u32 0, .int .u32 0, .int .u32 0, .int .u32 0] 136)
  have hb0 := ((Below.refl w.heap.size w).alloc (Nat.le_refl _) (.cells #[.bool false, .int .u32 0, .int .u32 0, .int .u32 0, .int .u32 0, .int .u32 0, .int .u32 0, .int .u32 0, .int .u32 0, .int .u32 0, .int .u32 0, .int .u32 0, .int .u32 0, .int .u32 0, .int .u32 0, .int .u32 0, .int .u32 0] 136)).alloc (by simp) (.cells #[.bool false, .int .u32 0, .int .u32 0, .int .u32 0, .int .u32 0, .int .u32 0, .int .u32 0, .int .u32 0, .int .u32 0, .int .u32 0, .int .u32 0, .int .u32 0, .int .u32 0, .int .u32 0, .int .u32 0, .int .u32 0, .int .u32 0] 136)
  go_enter Tryz.func128, Tryz.ntmps128
  go_wp2_with (first
    | (go_at_call 151; (with_reducible refine (HC.out _ g0).mono ?_); rintro e w1 ⟨rfl, hb⟩; have q1 := l1.below hb; have q2 := l2.below hb; have hb1 := below_any hb0 hb (Nat.le_of_lt l1.lt))
    | ((with_reducible refine wpList_storeN (.tmp 4) (.tmp 10) w.heap.size (by assumption) isNum_zero ?_ ?_ ?_ ?_ ?_); rfl; rfl; rfl; rfl; intro w2 ho p1; have p2 := q2.only ho (by omega); have hb2 := below_only hb1 ho (Nat.le_refl _) (Nat.le_of_lt q1.lt))
    | ((with_reducible refine wpList_storeN (.tmp 4) (.tmp 14) w.heap.size (by assumption) isNum_zero ?_ ?_ ?_ ?_ ?_); rfl; rfl; rfl; rfl; intro w3 ho3 r1; have r2 := p2.only ho3 (by omega); have hb3 := below_only hb2 ho3 (Nat.le_refl _) (Nat.le_of_lt p1.lt))
    | ((with_reducible refine wpList_storeN (.tmp 5) (.tmp 15) (w.heap.size + 1) (by assumption) isNum_zero ?_ ?_ ?_ ?_ ?_); rfl; rfl; rfl; rfl; intro w4 ho4 m2; have m1 := r1.only ho4 (by omega); have hb4 := below_only hb3 ho4 (by omega) (Nat.le_of_lt r1.lt)))
  exact bodyPost_ret (v := .tuple #[.agg zero59, .agg zero59, .bool false]) (results_num2_tmp (p := 4) (p2 := 5) (q := 6) Tryz.results128 _ (.bool false) rfl rfl rfl m1 m2) rfl ⟨rfl, hb4⟩

set_option maxRecDepth 20000 in
set_option maxHeartbeats 1600000 in
theorem bothNo2 (s t : ByteArray) (w : World) (hG : Gd w) (hs : s.size < 4294967281) (ht : t.size < 4294967281) (h : chk s.data.toList = true) (h2 : chk t.data.toList = false) :
    Calls Tryz.prog 128 #[.string s, .string t] w fun e w' => e = .returned (.tuple #[.agg zero59, .agg zero59, .bool false]) ∧ Below w.heap.size w w' := by
  have hc : ∀ W, Gd W → Calls Tryz.prog 151 #[.string s] W fun e w' => ∃ c f, e = .returned (.tuple #[.agg c, .bool true]) ∧ IsNum c (dsign s.data.toList) f ∧ wval f = damt s.data.toList ∧ Below W.heap.size W w' := fun W hW => parseDec s W hW hs h
  have hc2 : ∀ W, Gd W → Calls Tryz.prog 151 #[.string t] W fun e w' => e = .returned (.tuple #[.agg zero59, .bool false]) ∧ Below W.heap.size W w' := fun W hW => parseNo t W hW ht h2
  have HC := Lib.hid hc
  have HC2 := Lib.hid hc2
  generalize dsign s.data.toList = sn at *
  generalize damt s.data.toList = sx at *
  clear hc hc2 h h2 hs ht
  have l1 : Lies ((w.alloc (.cells #[.bool false, .int .u32 0, .int .u32 0, .int .u32 0, .int .u32 0, .int .u32 0, .int .u32 0, .int .u32 0, .int .u32 0, .int .u32 0, .int .u32 0, .int .u32 0, .int .u32 0, .int .u32 0, .int .u32 0, .int .u32 0, .int .u32 0] 136)).alloc (.cells #[.bool false, .int .u32 0, .int .u32 0, .int .u32 0, .int .u32 0, .int .u32 0, .int .u32 0, .int .u32 0, .int .u32 0, .int .u32 0, .int .u32 0, .int .u32 0, .int .u32 0, .int .u32 0, .int .u32 0, .int .u32 0, .int .u32 0] 136)) w.heap.size zero59 false (fun _ => 0) := (lies_zero _ rfl).alloc _
  have l2 : Lies ((w.alloc (.cells #[.bool false, .int .u32 0, .int .u32 0, .int .u32 0, .int .u32 0, .int .u32 0, .int .u32 0, .int .u32 0, .int .u32 0, .int .u32 0, .int .u32 0, .int .u32 0, .int .u32 0, .int .u32 0, .int .u32 0, .int .u32 0, .int .u32 0] 136)).alloc (.cells #[.bool false, .int .u32 0, .int .u32 0, .int .u32 0, .int .u32 0, .int .u32 0, .int .u32 0, .int .u32 0, .int .u32 0, .int .u32 0, .int .u32 0, .int .u32 0, .int .u32 0, .int .u32 0, .int .u32 0, .int .u32 0, .int .u32 0] 136)) (w.heap.size + 1) zero59 false (fun _ => 0) := lies_zero _ (by simp)
  have g0 := (hG.alloc (.cells #[.bool false, .int .u32 0, .int .u32 0, .int .u32 0, .int .u32 0, .int .u32 0, .int .u32 0, .int .u32 0, .int .u32 0, .int .u32 0, .int .u32 0, .int .u32 0, .int .u32 0, .int .u32 0, .int .u32 0, .int .u32 0, .int .u32 0] 136)).alloc (.cells #[.bool false, .int .u32 0, .int .u32 0, .int .u32 0, .int .u32 0, .int .u32 0, .int .u32 0, .int .u32 0, .int .u32 0, .int .u32 0, .int .u32 0, .int .u32 0, .int .u32 0, .int .u32 0, .int .u32 0, .int .u32 0, .int .u32 0] 136)
  have hb0 := ((Below.refl w.heap.size w).alloc (Nat.le_refl _) (.cells #[.bool false, .int .u32 0, .int .u32 0, .int .u32 0, .int .u32 0, .int .u32 0, .int .u32 0, .int .u32 0, .int .u32 0, .int .u32 0, .int .u32 0, .int .u32 0, .int .u32 0, .int .u32 0, .int .u32 0, .int .u32 0, .int .u32 0] 136)).alloc (by simp) (.cells #[.bool false, .int .u32 0, .int .u32 0, .int .u32 0, .int .u32 0, .int .u32 0, .int .u32 0, .int .u32 0, .int .u32 0, .int .u32 0, .int .u32 0, .int .u32 0, .int .u32 0, .int .u32 0, .int .u32 0, .int .u32 0, .int .u32 0] 136)
  go_enter Tryz.func128, Tryz.ntmps128
  go_wp2_with (first
    | (go_at_call 151; (with_reducible refine (HC.out _ g0).mono ?_); rintro e w1 ⟨c, f, rfl, hn, hv, hb⟩; clear hv; have q1 := l1.below hb; have q2 := l2.below hb; have g1 := g0.below hb; have hb1 := below_any hb0 hb (Nat.le_of_lt l1.lt))
    | ((with_reducible refine wpList_storeN (.tmp 4) (.tmp 10) w.heap.size (by assumption) hn ?_ ?_ ?_ ?_ ?_); rfl; rfl; rfl; rfl; intro w2 ho p1; have p2 := q2.only ho (by omega); have hb2 := below_only hb1 ho (Nat.le_refl _) (Nat.le_of_lt q1.lt); have g2 : Gd w2 := hG.below hb2)
    | (go_at_call 151; (with_reducible refine (HC2.out _ g2).mono ?_); rintro e w3 ⟨rfl, hb⟩; have r1 := p1.below hb; have r2 := p2.below hb; have hb3 := below_any hb2 hb (Nat.le_of_lt p1.lt))
    | ((with_reducible refine wpList_storeN (.tmp 5) (.tmp 19) (w.heap.size + 1) (by assumption) isNum_zero ?_ ?_ ?_ ?_ ?_); rfl; rfl; rfl; rfl; intro w4 ho4 m2; have m1 := r1.only ho4 (by omega); have hb4 := below_only hb3 ho4 (by omega) (Nat.le_of_lt r1.lt))
    | ((with_reducible refine wpList_storeN (.tmp 4) (.tmp 23) w.heap.size (by assumption) isNum_zero ?_ ?_ ?_ ?_ ?_); rfl; rfl; rfl; rfl; intro w5 ho5 n1; have n2 := m2.only ho5 (by omega); have hb5 := below_only hb4 ho5 (Nat.le_refl _) (Nat.le_of_lt m1.lt))
    | ((with_reducible refine wpList_storeN (.tmp 5) (.tmp 24) (w.heap.size + 1) (by assumption) isNum_zero ?_ ?_ ?_ ?_ ?_); rfl; rfl; rfl; rfl; intro w6 ho6 y2; have y1 := n1.only ho6 (by omega); have hb6 := below_only hb5 ho6 (by omega) (Nat.le_of_lt n1.lt)))
  exact bodyPost_ret (v := .tuple #[.agg zero59, .agg zero59, .bool false]) (results_num2_tmp (p := 4) (p2 := 5) (q := 6) Tryz.results128 _ (.bool false) rfl rfl rfl y1 y2) rfl ⟨rfl, hb6⟩

end Go.Proofs.YtoifjjgakblhhaaGreatDoor

/- reckon, Add, Sub. -/
namespace Go.Proofs.YtoifjjgakblhhaaGreatDoor
open Go.RowKit

theorem textNum (c : Array Value) (n : Bool) (f : Nat → Nat) (z : Int) (w : World) (hc : IsNum c n f) (hz : sv n (wval f) = z) (t : ByteArray) (k : Int) (hv : said (txt z) = .tuple #[.string t, .int .i64 k]) :
    Calls Tryz.prog 180 #[.agg c] w fun e w' => e = .returned (.tuple #[.string t, .int .i64 k]) ∧ Below w.heap.size w w' := by
  have := textAt c n f w hc
  rwa [wrN_sv, hz, hv] at this

theorem damt_sum {s t : List UInt8} (h : chk s = true) (h2 : chk t = true) : damt s + damt t < BASE ^ 16 := by
  have a := (chk_dec s h).2.1
  have b := (chk_dec t h2).2.1
  have e : BASE ^ 16 = 10 ^ 144 := base_pow 16
  rw [e]
  have : (10 : Nat) ^ 94 + 10 ^ 94 ≤ 10 ^ 144 := by decide
  omega

set_option maxRecDepth 20000 in
set_option maxHeartbeats 1600000 in
theorem reckonBad (F : Value) (s t : ByteArray) (w : World) (hG : Gd w) (hs : s.size < 4294967281) (ht : t.size < 4294967281) (h : chk s.data.toList = false ∨ chk t.data.toList = false) :
    Calls Tryz.prog 159 #[.string s, .string t, F] w fun e w' => e = .returned (.tuple #[.string ⟨#[]⟩, .int .i64 1]) ∧ Below w.heap.size w w' := by
  have hc : ∀ W, Gd W → Calls Tryz.prog 128 #[.string s, .string t] W fun e w' => e = .returned (.tuple #[.agg zero59, .agg zero59, .bool false]) ∧ Below W.heap.size W w' := fun W hW => by
    by_cases h1 : chk s.data.toList = true
    · exact bothNo2 s t W hW hs ht h1 (by rcases h with h | h; rw [h] at h1; cases h1; exact h)
    · exact bothNo1 s t W hW hs (by simpa using h1)
  have HC := Lib.hid hc
  clear hc h hs ht
  go_enter Tryz.func159, Tryz.ntmps159
  go_wp2_with (first
    | (go_at_call 128; (with_reducible refine (HC.out _ hG).mono ?_); rintro e w1 ⟨rfl, hb⟩; have l1 : Lies ((w1.alloc (.cells #[.bool false, .int .u32 0, .int .u32 0, .int .u32 0, .int .u32 0, .int .u32 0, .int .u32 0, .int .u32 0, .int .u32 0, .int .u32 0, .int .u32 0, .int .u32 0, .int .u32 0, .int .u32 0, .int .u32 0, .int .u32 0, .int .u32 0] 136)).alloc (.cells #[.bool false, .int .u32 0, .int .u32 0, .int .u32 0, .int .u32 0, .int .u32 0, .int .u32 0, .int .u32 0, .int .u32 0, .int .u32 0, .int .u32 0, .int .u32 0, .int .u32 0, .int .u32 0, .int .u32 0, .int .u32 0, .int .u32 0] 136)) w1.heap.size zero59 false (fun _ => 0) := (lies_zero _ rfl).alloc _; have l2 : Lies ((w1.alloc (.cells #[.bool false, .int .u32 0, .int .u32 0, .int .u32 0, .int .u32 0, .int .u32 0, .int .u32 0, .int .u32 0, .int .u32 0, .int .u32 0, .int .u32 0, .int .u32 0, .int .u32 0, .int .u32 0, .int .u32 0, .int .u32 0, .int .u32 0] 136)).alloc (.cells #[.bool false, .int .u32 0, .int .u32 0, .int .u32 0, .int .u32 0, .int .u32 0, .int .u32 0, .int .u32 0, .int .u32 0, .int .u32 0, .int .u32 0, .int .u32 0, .int .u32 0, .int .u32 0, .int .u32 0, .int .u32 0, .int .u32 0] 136)) (w1.heap.size + 1) zero59 false (fun _ => 0) := lies_zero _ (by simp); have hb1 : Below w.heap.size w ((w1.alloc (.cells #[.bool false, .int .u32 0, .int .u32 0, .int .u32 0, .int .u32 0, .int .u32 0, .int .u32 0, .int .u32 0, .int .u32 0, .int .u32 0, .int .u32 0, .int .u32 0, .int .u32 0, .int .u32 0, .int .u32 0, .int .u32 0, .int .u32 0] 136)).alloc (.cells #[.bool false, .int .u32 0, .int .u32 0, .int .u32 0, .int .u32 0, .int .u32 0, .int .u32 0, .int .u32 0, .int .u32 0, .int .u32 0, .int .u32 0, .int .u32 0, .int .u32 0, .int .u32 0, .int .u32 0, .int .u32 0, .int .u32 0] 136)) := (hb.alloc hb.size _).alloc (by have := hb.size; simp; omega) _; have hsz := hb.size)
    | ((with_reducible refine wpList_storeN (.tmp 8) (.tmp 15) w1.heap.size (by assumption) isNum_zero ?_ ?_ ?_ ?_ ?_); rfl; rfl; rfl; rfl; intro w2 ho p1; have p2 := l2.only ho (by omega); have hb2 := below_only hb1 ho hsz (Nat.le_of_lt (Nat.lt_of_le_of_lt hsz l1.lt)))
    | ((with_reducible refine wpList_storeN (.tmp 9) (.tmp 16) (w1.heap.size + 1) (by assumption) isNum_zero ?_ ?_ ?_ ?_ ?_); rfl; rfl; rfl; rfl; intro w3 ho3 q2; have q1 := p1.only ho3 (by omega); have hb3 := below_only hb2 ho3 (by omega) (Nat.le_of_lt (Nat.lt_of_le_of_lt hsz p1.lt))))
  go_ret2
  exact ⟨rfl, hb3⟩

set_option maxRecDepth 20000 in
set_option maxHeartbeats 1600000 in
theorem reckonPlus (s t : ByteArray) (w : World) (hG : Gd w) (hs : s.size < 4294967281) (ht : t.size < 4294967281) (h : chk s.data.toList = true) (h2 : chk t.data.toList = true) (x : ByteArray) (k : Int)
    (hv : said (txt (dval s.data.toList + dval t.data.toList)) = .tuple #[.string x, .int .i64 k]) :
    Calls Tryz.prog 159 #[.string s, .string t, .func (Fn.func 160) #[] #[]] w fun e w' => e = .returned (.tuple #[.string x, .int .i64 k]) ∧ Below w.heap.size w w' := by
  have hc : ∀ W, Gd W → Calls Tryz.prog 128 #[.string s, .string t] W fun e w' => ∃ c d f g, e = .returned (.tuple #[.agg c, .agg d, .bool true]) ∧ IsNum c (dsign s.data.toList) f ∧ wval f = damt s.data.toList ∧
      IsNum d (dsign t.data.toList) g ∧ wval g = damt t.data.toList ∧ Below W.heap.size W w' := fun W hW => bothYes s t W hW hs ht h h2
  have HC := Lib.hid hc
  have hop : ∀ (c d : Array Value) (f g : Nat → Nat) W, IsNum c (dsign s.data.toList) f → wval f = damt s.data.toList → IsNum d (dsign t.data.toList) g → wval g = damt t.data.toList →
      Calls Tryz.prog 160 #[.agg c, .agg d] W fun e w' => ∃ c' r h, e = .returned (.agg c') ∧ IsNum c' r h ∧ Aside (sv r (wval h) = dval s.data.toList + dval t.data.toList) ∧ Below W.heap.size W w' := by
    intro c d f g W h1 e1 h3 e2
    refine (plusNum c d _ _ f g W h1 h3 (by rw [e1, e2]; exact damt_sum h h2)).mono ?_
    rintro e w' ⟨c', r, k, rfl, hr, hsv, hb⟩
    exact ⟨c', r, k, rfl, hr, by unfold Aside; rw [hsv, e1, e2]; rfl, hb⟩
  have HOP := Lib.hid hop
  have HV := Lib.hid hv
  clear hc hop hv h h2 hs ht
  go_enter Tryz.func159, Tryz.ntmps159
  go_wp2_with (first
    | (go_at_call 128; (with_reducible refine (HC.out _ hG).mono ?_); rintro e w1 ⟨c, d, f, g, rfl, hn, hx, hm, hy, hb⟩; have HX := Lib.hid hx; have HY := Lib.hid hy; clear hx hy; have l1 : Lies ((w1.alloc (.cells #[.bool false, .int .u32 0, .int .u32 0, .int .u32 0, .int .u32 0, .int .u32 0, .int .u32 0, .int .u32 0, .int .u32 0, .int .u32 0, .int .u32 0, .int .u32 0, .int .u32 0, .int .u32 0, .int .u32 0, .int .u32 0, .int .u32 0] 136)).alloc (.cells #[.bool false, .int .u32 0, .int .u32 0, .int .u32 0, .int .u32 0, .int .u32 0, .int .u32 0, .int .u32 0, .int .u32 0, .int .u32 0, .int .u32 0, .int .u32 0, .int .u32 0, .int .u32 0, .int .u32 0, .int .u32 0, .int .u32 0] 136)) w1.heap.size zero59 false (fun _ => 0) := (lies_zero _ rfl).alloc _; have l2 : Lies ((w1.alloc (.cells #[.bool false, .int .u32 0, .int .u32 0, .int .u32 0, .int .u32 0, .int .u32 0, .int .u32 0, .int .u32 0, .int .u32 0, .int .u32 0, .int .u32 0, .int .u32 0, .int .u32 0, .int .u32 0, .int .u32 0, .int .u32 0, .int .u32 0] 136)).alloc (.cells #[.bool false, .int .u32 0, .int .u32 0, .int .u32 0, .int .u32 0, .int .u32 0, .int .u32 0, .int .u32 0, .int .u32 0, .int .u32 0, .int .u32 0, .int .u32 0, .int .u32 0, .int .u32 0, .int .u32 0, .int .u32 0, .int .u32 0] 136)) (w1.heap.size + 1) zero59 false (fun _ => 0) := lies_zero _ (by simp); have hb1 : Below w.heap.size w ((w1.alloc (.cells #[.bool false, .int .u32 0, .int .u32 0, .int .u32 0, .int .u32 0, .int .u32 0, .int .u32 0, .int .u32 0, .int .u32 0, .int .u32 0, .int .u32 0, .int .u32 0, .int .u32 0, .int .u32 0, .int .u32 0, .int .u32 0, .int .u32 0] 136)).alloc (.cells #[.bool false, .int .u32 0, .int .u32 0, .int .u32 0, .int .u32 0, .int .u32 0, .int .u32 0, .int .u32 0, .int .u32 0, .int .u32 0, .int .u32 0, .int .u32 0, .int .u32 0, .int .u32 0, .int .u32 0, .int .u32 0, .int .u32 0] 136)) := (hb.alloc hb.size _).alloc (by have := hb.size; simp; omega) _; have hsz := hb.size)
    | ((with_reducible refine wpList_storeN (.tmp 8) (.tmp 15) w1.heap.size (by assumption) hn ?_ ?_ ?_ ?_ ?_); rfl; rfl; rfl; rfl; intro w2 ho p1; have p2 := l2.only ho (by omega); have hb2 := below_only hb1 ho hsz (Nat.le_of_lt (Nat.lt_of_le_of_lt hsz l1.lt)))
    | ((with_reducible refine wpList_storeN (.tmp 9) (.tmp 16) (w1.heap.size + 1) (by assumption) hm ?_ ?_ ?_ ?_ ?_); rfl; rfl; rfl; rfl; intro w3 ho3 q2; have q1 := p1.only ho3 (by omega); have hb3 := below_only hb2 ho3 (by omega) (Nat.le_of_lt (Nat.lt_of_le_of_lt hsz p1.lt)))
    | ((with_reducible refine wpList_loadN (.tmp 8) w1.heap.size (by assumption) ?_ ?_ ?_ ?_); rfl; rfl; rfl)
    | ((with_reducible refine wpList_loadN (.tmp 9) (w1.heap.size + 1) (by assumption) ?_ ?_ ?_ ?_); rfl; rfl; rfl)
    | (go_at_call 160; (with_reducible refine (HOP.out c d f g _ hn HX.out hm HY.out).mono ?_); rintro e w4 ⟨c', r, h, rfl, hr, hsv, hb4⟩; have hb5 := below_any hb3 hb4 (Nat.le_of_lt (Nat.lt_of_le_of_lt hsz q1.lt)))
    | (go_at_call 180; (with_reducible refine (textNum c' r h _ _ hr hsv.out x k HV.out).mono ?_); rintro e w5 ⟨rfl, hb6⟩; have hb7 := below_any hb5 hb6 hb5.size))
  go_ret2
  exact ⟨rfl, hb7⟩

set_option maxRecDepth 20000 in
set_option maxHeartbeats 1600000 in
theorem reckonMinus (s t : ByteArray) (w : World) (hG : Gd w) (hs : s.size < 4294967281) (ht : t.size < 4294967281) (h : chk s.data.toList = true) (h2 : chk t.data.toList = true) (x : ByteArray) (k : Int)
    (hv : said (txt (dval s.data.toList - dval t.data.toList)) = .tuple #[.string x, .int .i64 k]) :
    Calls Tryz.prog 159 #[.string s, .string t, .func (Fn.func 161) #[] #[]] w fun e w' => e = .returned (.tuple #[.string x, .int .i64 k]) ∧ Below w.heap.size w w' := by
  have hc : ∀ W, Gd W → Calls Tryz.prog 128 #[.string s, .string t] W fun e w' => ∃ c d f g, e = .returned (.tuple #[.agg c, .agg d, .bool true]) ∧ IsNum c (dsign s.data.toList) f ∧ wval f = damt s.data.toList ∧
      IsNum d (dsign t.data.toList) g ∧ wval g = damt t.data.toList ∧ Below W.heap.size W w' := fun W hW => bothYes s t W hW hs ht h h2
  have HC := Lib.hid hc
  have hop : ∀ (c d : Array Value) (f g : Nat → Nat) W, IsNum c (dsign s.data.toList) f → wval f = damt s.data.toList → IsNum d (dsign t.data.toList) g → wval g = damt t.data.toList →
      Calls Tryz.prog 161 #[.agg c, .agg d] W fun e w' => ∃ c' r h, e = .returned (.agg c') ∧ IsNum c' r h ∧ Aside (sv r (wval h) = dval s.data.toList - dval t.data.toList) ∧ Below W.heap.size W w' := by
    intro c d f g W h1 e1 h3 e2
    refine (minusNum c d _ _ f g W h1 h3 (by rw [e1, e2]; exact damt_sum h h2)).mono ?_
    rintro e w' ⟨c', r, k, rfl, hr, hsv, hb⟩
    refine ⟨c', r, k, rfl, hr, ?_, hb⟩
    unfold Aside
    rw [hsv, e1, e2]
    unfold dval sv
    cases dsign s.data.toList <;> cases dsign t.data.toList <;> simp <;> omega
  have HOP := Lib.hid hop
  have HV := Lib.hid hv
  clear hc hop hv h h2 hs ht
  go_enter Tryz.func159, Tryz.ntmps159
  go_wp2_with (first
    | (go_at_call 128; (with_reducible refine (HC.out _ hG).mono ?_); rintro e w1 ⟨c, d, f, g, rfl, hn, hx, hm, hy, hb⟩; have HX := Lib.hid hx; have HY := Lib.hid hy; clear hx hy; have l1 : Lies ((w1.alloc (.cells #[.bool false, .int .u32 0, .int .u32 0, .int .u32 0, .int .u32 0, .int .u32 0, .int .u32 0, .int .u32 0, .int .u32 0, .int .u32 0, .int .u32 0, .int .u32 0, .int .u32 0, .int .u32 0, .int .u32 0, .int .u32 0, .int .u32 0] 136)).alloc (.cells #[.bool false, .int .u32 0, .int .u32 0, .int .u32 0, .int .u32 0, .int .u32 0, .int .u32 0, .int .u32 0, .int .u32 0, .int .u32 0, .int .u32 0, .int .u32 0, .int .u32 0, .int .u32 0, .int .u32 0, .int .u32 0, .int .u32 0] 136)) w1.heap.size zero59 false (fun _ => 0) := (lies_zero _ rfl).alloc _; have l2 : Lies ((w1.alloc (.cells #[.bool false, .int .u32 0, .int .u32 0, .int .u32 0, .int .u32 0, .int .u32 0, .int .u32 0, .int .u32 0, .int .u32 0, .int .u32 0, .int .u32 0, .int .u32 0, .int .u32 0, .int .u32 0, .int .u32 0, .int .u32 0, .int .u32 0] 136)).alloc (.cells #[.bool false, .int .u32 0, .int .u32 0, .int .u32 0, .int .u32 0, .int .u32 0, .int .u32 0, .int .u32 0, .int .u32 0, .int .u32 0, .int .u32 0, .int .u32 0, .int .u32 0, .int .u32 0, .int .u32 0, .int .u32 0, .int .u32 0] 136)) (w1.heap.size + 1) zero59 false (fun _ => 0) := lies_zero _ (by simp); have hb1 : Below w.heap.size w ((w1.alloc (.cells #[.bool false, .int .u32 0, .int .u32 0, .int .u32 0, .int .u32 0, .int .u32 0, .int .u32 0, .int .u32 0, .int .u32 0, .int .u32 0, .int .u32 0, .int .u32 0, .int .u32 0, .int .u32 0, .int .u32 0, .int .u32 0, .int .u32 0] 136)).alloc (.cells #[.bool false, .int .u32 0, .int .u32 0, .int .u32 0, .int .u32 0, .int .u32 0, .int .u32 0, .int .u32 0, .int .u32 0, .int .u32 0, .int .u32 0, .int .u32 0, .int .u32 0, .int .u32 0, .int .u32 0, .int .u32 0, .int .u32 0] 136)) := (hb.alloc hb.size _).alloc (by have := hb.size; simp; omega) _; have hsz := hb.size)
    | ((with_reducible refine wpList_storeN (.tmp 8) (.tmp 15) w1.heap.size (by assumption) hn ?_ ?_ ?_ ?_ ?_); rfl; rfl; rfl; rfl; intro w2 ho p1; have p2 := l2.only ho (by omega); have hb2 := below_only hb1 ho hsz (Nat.le_of_lt (Nat.lt_of_le_of_lt hsz l1.lt)))
    | ((with_reducible refine wpList_storeN (.tmp 9) (.tmp 16) (w1.heap.size + 1) (by assumption) hm ?_ ?_ ?_ ?_ ?_); rfl; rfl; rfl; rfl; intro w3 ho3 q2; have q1 := p1.only ho3 (by omega); have hb3 := below_only hb2 ho3 (by omega) (Nat.le_of_lt (Nat.lt_of_le_of_lt hsz p1.lt)))
    | ((with_reducible refine wpList_loadN (.tmp 8) w1.heap.size (by assumption) ?_ ?_ ?_ ?_); rfl; rfl; rfl)
    | ((with_reducible refine wpList_loadN (.tmp 9) (w1.heap.size + 1) (by assumption) ?_ ?_ ?_ ?_); rfl; rfl; rfl)
    | (go_at_call 161; (with_reducible refine (HOP.out c d f g _ hn HX.out hm HY.out).mono ?_); rintro e w4 ⟨c', r, h, rfl, hr, hsv, hb4⟩; have hb5 := below_any hb3 hb4 (Nat.le_of_lt (Nat.lt_of_le_of_lt hsz q1.lt)))
    | (go_at_call 180; (with_reducible refine (textNum c' r h _ _ hr hsv.out x k HV.out).mono ?_); rintro e w5 ⟨rfl, hb6⟩; have hb7 := below_any hb5 hb6 hb5.size))
  go_ret2
  exact ⟨rfl, hb7⟩

set_option maxHeartbeats 800000 in
theorem addYes (s t : ByteArray) (w : World) (hG : Gd w) (hs : s.size < 4294967281) (ht : t.size < 4294967281) (h : chk s.data.toList = true) (h2 : chk t.data.toList = true) (x : ByteArray) (k : Int)
    (hv : said (txt (dval s.data.toList + dval t.data.toList)) = .tuple #[.string x, .int .i64 k]) :
    Calls Tryz.prog 138 #[.string s, .string t] w fun e w' => e = .returned (.tuple #[.string x, .int .i64 k]) ∧ Below w.heap.size w w' := by
  have hc : ∀ W, Gd W → Calls Tryz.prog 159 #[.string s, .string t, .func (Fn.func 160) #[] #[]] W fun e w' => e = .returned (.tuple #[.string x, .int .i64 k]) ∧ Below W.heap.size W w' := fun W hW => reckonPlus s t W hW hs ht h h2 x k hv
  have HC := Lib.hid hc
  clear hc hv h h2 hs ht
  go_enter Tryz.func138, Tryz.ntmps138
  go_wp2_with (go_at_call 159; (with_reducible refine (HC.out _ hG).mono ?_); rintro e w1 ⟨rfl, hb⟩)
  go_ret2
  exact ⟨rfl, hb⟩
theorem addNo (s t : ByteArray) (w : World) (hG : Gd w) (hs : s.size < 4294967281) (ht : t.size < 4294967281) (h : chk s.data.toList = false ∨ chk t.data.toList = false) :
    Calls Tryz.prog 138 #[.string s, .string t] w fun e w' => e = .returned (.tuple #[.string ⟨#[]⟩, .int .i64 1]) ∧ Below w.heap.size w w' := by
  have hc : ∀ W, Gd W → Calls Tryz.prog 159 #[.string s, .string t, .func (Fn.func 160) #[] #[]] W fun e w' => e = .returned (.tuple #[.string ⟨#[]⟩, .int .i64 1]) ∧ Below W.heap.size W w' := fun W hW => reckonBad _ s t W hW hs ht h
  have HC := Lib.hid hc
  clear hc h hs ht
  go_enter Tryz.func138, Tryz.ntmps138
  go_wp2_with (go_at_call 159; (with_reducible refine (HC.out _ hG).mono ?_); rintro e w1 ⟨rfl, hb⟩)
  go_ret2
  exact ⟨rfl, hb⟩

set_option maxHeartbeats 800000 in
theorem subYes (s t : ByteArray) (w : World) (hG : Gd w) (hs : s.size < 4294967281) (ht : t.size < 4294967281) (h : chk s.data.toList = true) (h2 : chk t.data.toList = true) (x : ByteArray) (k : Int)
    (hv : said (txt (dval s.data.toList - dval t.data.toList)) = .tuple #[.string x, .int .i64 k]) :
    Calls Tryz.prog 139 #[.string s, .string t] w fun e w' => e = .returned (.tuple #[.string x, .int .i64 k]) ∧ Below w.heap.size w w' := by
  have hc : ∀ W, Gd W → Calls Tryz.prog 159 #[.string s, .string t, .func (Fn.func 161) #[] #[]] W fun e w' => e = .returned (.tuple #[.string x, .int .i64 k]) ∧ Below W.heap.size W w' := fun W hW => reckonMinus s t W hW hs ht h h2 x k hv
  have HC := Lib.hid hc
  clear hc hv h h2 hs ht
  go_enter Tryz.func139, Tryz.ntmps139
  go_wp2_with (go_at_call 159; (with_reducible refine (HC.out _ hG).mono ?_); rintro e w1 ⟨rfl, hb⟩)
  go_ret2
  exact ⟨rfl, hb⟩
theorem subNo (s t : ByteArray) (w : World) (hG : Gd w) (hs : s.size < 4294967281) (ht : t.size < 4294967281) (h : chk s.data.toList = false ∨ chk t.data.toList = false) :
    Calls Tryz.prog 139 #[.string s, .string t] w fun e w' => e = .returned (.tuple #[.string ⟨#[]⟩, .int .i64 1]) ∧ Below w.heap.size w w' := by
  have hc : ∀ W, Gd W → Calls Tryz.prog 159 #[.string s, .string t, .func (Fn.func 161) #[] #[]] W fun e w' => e = .returned (.tuple #[.string ⟨#[]⟩, .int .i64 1]) ∧ Below W.heap.size W w' := fun W hW => reckonBad _ s t W hW hs ht h
  have HC := Lib.hid hc
  clear hc h hs ht
  go_enter Tryz.func139, Tryz.ntmps139
  go_wp2_with (go_at_call 159; (with_reducible refine (HC.out _ hG).mono ?_); rintro e w1 ⟨rfl, hb⟩)
  go_ret2
  exact ⟨rfl, hb⟩

end Go.Proofs.YtoifjjgakblhhaaGreatDoor

/- compare. -/
namespace Go.Proofs.YtoifjjgakblhhaaGreatDoor
open Go.RowKit

theorem cmpFT (c d : Array Value) (f g : Nat → Nat) (w : World) (hc : IsNum c false f) (hd : IsNum d true g) :
    Calls Tryz.prog 129 #[.agg c, .agg d] w fun e w' => e = .returned (.int .i64 1) ∧ Below w.heap.size w w' := by
  have h0 : ((w.alloc (.cells c 136)).alloc (.cells d 136)).cell? ⟨w.heap.size, 0, none⟩ = some (.bool false) := cell_of (heap_old _ (heap_new _ _ rfl)) _ hc.neg
  have h1 : ((w.alloc (.cells c 136)).alloc (.cells d 136)).cell? ⟨w.heap.size + 1, 0, none⟩ = some (.bool true) := cell_of (heap_new _ _ (by simp)) _ hd.neg
  go_enter Tryz.func129, Tryz.ntmps129
  go_wp2_with fail
  go_ret
  exact ⟨rfl, ((Below.refl _ _).alloc (Nat.le_refl _) _).alloc (by simp) _⟩

set_option maxHeartbeats 800000 in
theorem cmpFF (c d : Array Value) (f g : Nat → Nat) (w : World) (hc : IsNum c false f) (hd : IsNum d false g) :
    Calls Tryz.prog 129 #[.agg c, .agg d] w fun e w' => e = .returned (.int .i64 (cmpI (wval f) (wval g))) ∧ Below w.heap.size w w' := by
  have h0 : ((w.alloc (.cells c 136)).alloc (.cells d 136)).cell? ⟨w.heap.size, 0, none⟩ = some (.bool false) := cell_of (heap_old _ (heap_new _ _ rfl)) _ hc.neg
  have h1 : ((w.alloc (.cells c 136)).alloc (.cells d 136)).cell? ⟨w.heap.size + 1, 0, none⟩ = some (.bool false) := cell_of (heap_new _ _ (by simp)) _ hd.neg
  have b1 : ((w.alloc (.cells c 136)).alloc (.cells d 136)).heap[w.heap.size]? = some (.cells c 136) := heap_old _ (heap_new _ _ rfl)
  have b2 : ((w.alloc (.cells c 136)).alloc (.cells d 136)).heap[w.heap.size + 1]? = some (.cells d 136) := heap_new _ _ (by simp)
  have hb : Below w.heap.size w ((w.alloc (.cells c 136)).alloc (.cells d 136)) := ((Below.refl _ _).alloc (Nat.le_refl _) _).alloc (by simp) _
  have hs : w.heap.size ≤ ((w.alloc (.cells c 136)).alloc (.cells d 136)).heap.size := by simp; omega
  have B1 := Lib.hid b1
  have B2 := Lib.hid b2
  clear b1 b2
  go_enter Tryz.func129, Tryz.ntmps129
  go_wp2_with (first
      | ((with_reducible refine wpList_load_num w.heap.size c ?_ ?_ (.tmp 2) ?_ ?_ ?_ ?_); exact B1.out; exact hc.size; rfl; rfl; rfl)
      | ((with_reducible refine wpList_load_num (w.heap.size + 1) d ?_ ?_ (.tmp 3) ?_ ?_ ?_ ?_); exact B2.out; exact hd.size; rfl; rfl; rfl)
      | (go_at_call 152; (with_reducible refine (cmpAmt c d _ _ _ _ hc hd _).mono ?_); rintro e w' ⟨rfl, hbel⟩))
  go_ret
  exact ⟨rfl, below_any hb hbel hs⟩
theorem cmpTF (c d : Array Value) (f g : Nat → Nat) (w : World) (hc : IsNum c true f) (hd : IsNum d false g) :
    Calls Tryz.prog 129 #[.agg c, .agg d] w fun e w' => e = .returned (.int .i64 (-1)) ∧ Below w.heap.size w w' := by
  have h0 : ((w.alloc (.cells c 136)).alloc (.cells d 136)).cell? ⟨w.heap.size, 0, none⟩ = some (.bool true) := cell_of (heap_old _ (heap_new _ _ rfl)) _ hc.neg
  have h1 : ((w.alloc (.cells c 136)).alloc (.cells d 136)).cell? ⟨w.heap.size + 1, 0, none⟩ = some (.bool false) := cell_of (heap_new _ _ (by simp)) _ hd.neg
  go_enter Tryz.func129, Tryz.ntmps129
  go_wp2_with fail
  go_ret
  exact ⟨rfl, ((Below.refl _ _).alloc (Nat.le_refl _) _).alloc (by simp) _⟩

set_option maxHeartbeats 800000 in
theorem cmpTT (c d : Array Value) (f g : Nat → Nat) (w : World) (hc : IsNum c true f) (hd : IsNum d true g) :
    Calls Tryz.prog 129 #[.agg c, .agg d] w fun e w' => e = .returned (.int .i64 (cmpI (wval g) (wval f))) ∧ Below w.heap.size w w' := by
  have h0 : ((w.alloc (.cells c 136)).alloc (.cells d 136)).cell? ⟨w.heap.size, 0, none⟩ = some (.bool true) := cell_of (heap_old _ (heap_new _ _ rfl)) _ hc.neg
  have h1 : ((w.alloc (.cells c 136)).alloc (.cells d 136)).cell? ⟨w.heap.size + 1, 0, none⟩ = some (.bool true) := cell_of (heap_new _ _ (by simp)) _ hd.neg
  have b1 : ((w.alloc (.cells c 136)).alloc (.cells d 136)).heap[w.heap.size]? = some (.cells c 136) := heap_old _ (heap_new _ _ rfl)
  have b2 : ((w.alloc (.cells c 136)).alloc (.cells d 136)).heap[w.heap.size + 1]? = some (.cells d 136) := heap_new _ _ (by simp)
  have hb : Below w.heap.size w ((w.alloc (.cells c 136)).alloc (.cells d 136)) := ((Below.refl _ _).alloc (Nat.le_refl _) _).alloc (by simp) _
  have hs : w.heap.size ≤ ((w.alloc (.cells c 136)).alloc (.cells d 136)).heap.size := by simp; omega
  have B1 := Lib.hid b1
  have B2 := Lib.hid b2
  clear b1 b2
  go_enter Tryz.func129, Tryz.ntmps129
  go_wp2_with (first
      | ((with_reducible refine wpList_load_num w.heap.size c ?_ ?_ (.tmp 2) ?_ ?_ ?_ ?_); exact B1.out; exact hc.size; rfl; rfl; rfl)
      | ((with_reducible refine wpList_load_num (w.heap.size + 1) d ?_ ?_ (.tmp 3) ?_ ?_ ?_ ?_); exact B2.out; exact hd.size; rfl; rfl; rfl)
      | (go_at_call 152; (with_reducible refine (cmpAmt d c _ _ _ _ hd hc _).mono ?_); rintro e w' ⟨rfl, hbel⟩))
  go_ret
  exact ⟨rfl, below_any hb hbel hs⟩
theorem cmpS_ff (x y : Nat) : cmpS false x false y = cmpI x y := by simp [cmpS]
theorem cmpS_ft (x y : Nat) : cmpS false x true y = 1 := by simp [cmpS]
theorem cmpS_tf (x y : Nat) : cmpS true x false y = -1 := by simp [cmpS]
theorem cmpS_tt (x y : Nat) : cmpS true x true y = cmpI y x := by simp [cmpS]

theorem cmpNum (c d : Array Value) (n m : Bool) (f g : Nat → Nat) (w : World) (hc : IsNum c n f) (hd : IsNum d m g) :
    Calls Tryz.prog 129 #[.agg c, .agg d] w fun e w' => e = .returned (.int .i64 (cmpS n (wval f) m (wval g))) ∧ Below w.heap.size w w' := by
  cases n <;> cases m
  · rw [cmpS_ff]; exact cmpFF c d f g w hc hd
  · rw [cmpS_ft]; exact cmpFT c d f g w hc hd
  · rw [cmpS_tf]; exact cmpTF c d f g w hc hd
  · rw [cmpS_tt]; exact cmpTT c d f g w hc hd

end Go.Proofs.YtoifjjgakblhhaaGreatDoor

/- The laws of decimals, as laws of whole numbers. No Go stands here. -/
namespace Go.Proofs.YtoifjjgakblhhaaGreatDoor

/-- The product. -/
def dmul (l r : List UInt8) : Int := sv (dsign l != dsign r) (damt l * damt r / 10 ^ 54)
/-- The quotient, cut behind twenty digits. -/
def dquo (l r : List UInt8) : Int := sv (dsign l != dsign r) (damt l * 10 ^ 20 / damt r * 10 ^ 34)
/-- -1, 0 or 1. -/
def cmpZ (x y : Int) : Int := if x < y then -1 else if y < x then 1 else 0

theorem cmpZ_bound (x y : Int) : -1 ≤ cmpZ x y ∧ cmpZ x y ≤ 1 := by unfold cmpZ; split <;> (try split) <;> omega
theorem cmpZ_swap (x y : Int) : cmpZ y x = -cmpZ x y := by unfold cmpZ; split <;> split <;> (try split) <;> omega
theorem cmpZ_neg (x y : Int) : cmpZ (-x) (-y) = -cmpZ x y := by unfold cmpZ; split <;> split <;> (try split) <;> (try split) <;> omega
theorem cmpZ_zero (x y : Int) : cmpZ x y = 0 ↔ x = y := by unfold cmpZ; split <;> (try split) <;> omega

theorem natAbs_sv (n : Bool) (x : Nat) : (sv n x).natAbs = x := by unfold sv; cases n <;> simp
theorem dval_lt {l : List UInt8} (h : chk l = true) : (dval l).natAbs < 10 ^ 94 := by
  unfold dval; rw [natAbs_sv]; exact (chk_dec l h).2.1
theorem dval_inj {l r : List UInt8} (h : chk l = true) (h2 : chk r = true) : dval l = dval r ↔ l = r := by
  constructor
  · intro e
    have a := (chk_dec l h).1
    have b := (chk_dec r h2).1
    rw [e, b] at a
    exact (Option.some.inj a).symm
  · rintro rfl; rfl

theorem txt_neg {z : Int} {l : List UInt8} (h : txt z = some l) : ∃ r, txt (-z) = some r := by
  unfold txt wrN wr at *
  simp only [Int.natAbs_neg] at *
  split at h
  · cases h
  · rename_i hl
    rw [if_neg hl]
    exact ⟨_, rfl⟩

theorem dmul_comm (l r : List UInt8) : dmul l r = dmul r l := by
  unfold dmul
  rw [Nat.mul_comm, show (dsign l != dsign r) = (dsign r != dsign l) by cases dsign l <;> cases dsign r <;> rfl]

theorem exact34 {x : Nat} (h : x % 10 ^ 34 = 0) : x = x / 10 ^ 34 * 10 ^ 34 := by
  have := Nat.div_add_mod x (10 ^ 34)
  rw [h, Nat.add_zero, Nat.mul_comm] at this
  exact this.symm

theorem p68 : (10 : Nat) ^ 34 * 10 ^ 34 = 10 ^ 14 * 10 ^ 54 := by decide
theorem p34 : (10 : Nat) ^ 14 * 10 ^ 20 = 10 ^ 34 := by decide
theorem prod_exact {x y : Nat} (hx : x % 10 ^ 34 = 0) (hy : y % 10 ^ 34 = 0) : x * y / 10 ^ 54 = x / 10 ^ 34 * (y / 10 ^ 34) * 10 ^ 14 := by
  generalize hA : x / 10 ^ 34 = A
  generalize hB : y / 10 ^ 34 = B
  have e1 := exact34 hx
  have e2 := exact34 hy
  rw [hA] at e1
  rw [hB] at e2
  have e : x * y = A * B * 10 ^ 14 * 10 ^ 54 := by
    rw [e1, e2, Nat.mul_assoc (A * B), ← p68]
    generalize (10 : Nat) ^ 34 = T
    ac_rfl
  rw [e, Nat.mul_div_cancel _ (by decide)]

theorem dmul_lt {l r : List UInt8} (h : chk l = true) (h2 : chk r = true) : (dmul l r).natAbs < 10 ^ 144 := by
  unfold dmul
  rw [natAbs_sv, Nat.div_lt_iff_lt_mul (by decide)]
  have a := (chk_dec l h).2.1
  have b := (chk_dec r h2).2.1
  have h3 : damt l * damt r ≤ 10 ^ 94 * 10 ^ 94 := Nat.mul_le_mul (by omega) (by omega)
  have h4 : (10 : Nat) ^ 94 * 10 ^ 94 < 10 ^ 144 * 10 ^ 54 := by decide
  omega

/-- A product divided by what it was multiplied with. -/
theorem quo_mul {l r m : List UInt8} (h : chk l = true) (h2 : chk r = true) (h0 : damt r ≠ 0) (hm : txt (dmul l r) = some m) : dquo m r = dval l := by
  obtain ⟨_, dm⟩ := txt_dec _ (dmul_lt h h2) m hm
  obtain ⟨_, _, a2, a3, _⟩ := chk_dec l h
  obtain ⟨_, _, b2, b3, _⟩ := chk_dec r h2
  have e1 : damt m = damt l / 10 ^ 34 * (damt r / 10 ^ 34) * 10 ^ 14 := by
    have := congrArg Int.natAbs dm
    unfold dval dmul at this
    rwa [natAbs_sv, natAbs_sv, prod_exact a2 b2] at this
  have x1 := exact34 a2
  have x2 := exact34 b2
  generalize hA : damt l / 10 ^ 34 = A at *
  generalize hB : damt r / 10 ^ 34 = B at *
  have hB0 : 0 < B := by
    by_cases e : B = 0
    · rw [e, Nat.zero_mul] at x2; exact absurd x2 h0
    · omega
  have e2 : damt m * 10 ^ 20 / damt r = A := by
    rw [e1, x2, Nat.mul_assoc _ (10 ^ 14), p34, Nat.mul_assoc A B]
    exact Nat.mul_div_cancel _ (Nat.mul_pos hB0 (by decide))
  have hs : sv (dsign m) (damt m) = sv (dsign l != dsign r) (damt m) := by
    have := dm
    unfold dval dmul at this
    rw [prod_exact a2 b2, hA, hB, ← e1] at this
    exact this
  unfold dquo dval
  rw [e2, ← x1]
  by_cases hz : damt l = 0
  · rw [hz]; unfold sv; simp
  · have hm0 : damt m ≠ 0 := by
      rw [e1]
      have : 0 < A := by
        by_cases e : A = 0
        · rw [e, Nat.zero_mul] at x1; exact absurd x1 hz
        · omega
      have : 0 < A * B * 10 ^ 14 := Nat.mul_pos (Nat.mul_pos this hB0) (by decide)
      omega
    have hsm : dsign m = (dsign l != dsign r) := by
      unfold sv at hs
      cases h3 : dsign m <;> cases h4 : (dsign l != dsign r) <;> simp only [h3, h4, Bool.false_eq_true, if_false, if_true] at hs <;> first | rfl | omega
    rw [hsm]
    congr 1
    cases dsign l <;> cases dsign r <;> rfl

theorem dec_zero {l : List UInt8} (h : chk l = true) (h0 : damt l = 0) : l = [48, 46, 48] := by
  have a := (chk_dec l h).1
  have e : dval l = 0 := by unfold dval sv; rw [h0]; simp
  rw [e] at a
  have z : txt 0 = some [48, 46, 48] := by decide +kernel
  rw [z] at a
  exact (Option.some.inj a).symm

end Go.Proofs.YtoifjjgakblhhaaGreatDoor
