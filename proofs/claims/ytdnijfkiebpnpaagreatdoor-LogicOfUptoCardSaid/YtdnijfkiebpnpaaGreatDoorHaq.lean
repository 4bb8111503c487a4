/- Texts of one kind, one behind the other: each says ahead of itself what it shows. -/
import Derived.Test.YtdnijfkiebpnpaaGreatDoorHao
/- Both texts as numbers: four ways. -/
namespace Go.Proofs.YtdnijfkiebpnpaaGreatDoor
open Go.RowKit

set_option maxRecDepth 20000 in
set_option maxHeartbeats 3200000 in
theorem two_ttt (s t : ByteArray) (N1 N2 : Bool) (s1 s2 : Int) (d1 d2 : List Nat) (c2 : Bool) (w : World) (P1 : Hid (ParsedAs s N1 s1 d1 true)) (P2 : Hid (ParsedAs t N2 s2 d2 true)) (C1 : Hid (CheckedAs s true)) (C2 : Hid (CheckedAs t c2)) :
    Calls Tryz.prog 25 #[.string s, .string t] w fun e w' => ∃ u v, e = .returned (.tuple #[.agg #[.bool N1, u, .int .i64 s1], .agg #[.bool N2, v, .int .i64 s2], .bool c2]) ∧ Ints w' u d1 ∧ Ints w' v d2 ∧ Below w.heap.size w w' := by
  have q4 : Rec ((w.alloc (.cells #[.bool false, .slice none 0 0, .int .i64 0] 47)).alloc (.cells #[.bool false, .slice none 0 0, .int .i64 0] 47)) w.heap.size false (.slice none 0 0) 0 := (rec_new w rfl).alloc _
  have q5 : Rec ((w.alloc (.cells #[.bool false, .slice none 0 0, .int .i64 0] 47)).alloc (.cells #[.bool false, .slice none 0 0, .int .i64 0] 47)) (w.heap.size + 1) false (.slice none 0 0) 0 := rec_new _ (by simp)
  have hb0 : Below w.heap.size w ((w.alloc (.cells #[.bool false, .slice none 0 0, .int .i64 0] 47)).alloc (.cells #[.bool false, .slice none 0 0, .int .i64 0] 47)) := ((Below.refl _ _).alloc (Nat.le_refl _) _).alloc (by simp) _
  have Q4 := Lib.hid q4
  have Q5 := Lib.hid q5
  have HB0 := Lib.hid hb0
  clear q4 q5 hb0
  go_enter Tryz.func25, Tryz.ntmps25
  go_wp2_with (first
    | (go_at_call 35; (with_reducible refine (P1.out.at _).mono ?_); rintro e w1 ⟨u, rfl, hi, hb⟩; have z7 := rec_new w1 rfl; have A4 := Lib.hid ((Q4.out.below hb).alloc (.cells #[.bool false, .slice none 0 0, .int .i64 0] 47)); have A5 := Lib.hid ((Q5.out.below hb).alloc (.cells #[.bool false, .slice none 0 0, .int .i64 0] 47)); have hs7 : w.heap.size + 2 ≤ w1.heap.size := by have := hb.size; simp at this; omega
       have AB := Lib.hid ((below_any HB0.out hb HB0.out.size).alloc (by omega) (.cells #[.bool false, .slice none 0 0, .int .i64 0] 47)); have AI := Lib.hid (hi.below ((Below.refl w1.heap.size w1).alloc (Nat.le_refl _) (.cells #[.bool false, .slice none 0 0, .int .i64 0] 47))); have HO := Lib.hid (ints_one hi); clear hb hi)
    | ((with_reducible refine wpList_store44 (m := N1) (u := u) (sd := s1) (.tmp 7) (.tmp 14) w1.heap.size z7 HO.out ?_ ?_ ?_ ?_ ?_); rfl; rfl; rfl; rfl; intro w2 ho p7; have B4 := Lib.hid (A4.out.only ho (by omega)); have B5 := Lib.hid (A5.out.only ho (by omega)); have BI := Lib.hid (AI.out.rec ho z7); have BB := Lib.hid (below_only AB.out ho (by omega) (Nat.le_of_lt A4.out.lt)); clear ho AB AI z7)
    | (go_at_call 35; (with_reducible refine (P2.out.at _).mono ?_); rintro e w3 ⟨v, rfl, hi, hb⟩; have z9 := rec_new w3 rfl; have hs9 : w1.heap.size + 1 ≤ w3.heap.size := by have := hb.size; have := p7.lt; omega
       have D4 := Lib.hid ((B4.out.below hb).alloc (.cells #[.bool false, .slice none 0 0, .int .i64 0] 47)); have D5 := Lib.hid ((B5.out.below hb).alloc (.cells #[.bool false, .slice none 0 0, .int .i64 0] 47)); have D7 := Lib.hid ((p7.below hb).alloc (.cells #[.bool false, .slice none 0 0, .int .i64 0] 47)); have DB := Lib.hid ((below_any BB.out hb BB.out.size).alloc (by omega) (.cells #[.bool false, .slice none 0 0, .int .i64 0] 47)); have DI := Lib.hid ((BI.out.below hb).below ((Below.refl w3.heap.size w3).alloc (Nat.le_refl _) (.cells #[.bool false, .slice none 0 0, .int .i64 0] 47))); have DJ := Lib.hid (hi.below ((Below.refl w3.heap.size w3).alloc (Nat.le_refl _) (.cells #[.bool false, .slice none 0 0, .int .i64 0] 47))); have HO2 := Lib.hid (ints_one hi); clear hb hi)
    | ((with_reducible refine wpList_store44 (m := N2) (u := v) (sd := s2) (.tmp 9) (.tmp 19) w3.heap.size z9 HO2.out ?_ ?_ ?_ ?_ ?_); rfl; rfl; rfl; rfl; intro w4 ho p9; have HT0 : Hid (TwoS w w1.heap.size w3.heap.size N1 u s1 d1 N2 v s2 d2 w4) := Lib.hid ⟨D7.out.only ho (by omega), p9, ⟨_, _, _, D4.out.only ho (by omega)⟩, ⟨_, _, _, D5.out.only ho (by omega)⟩, DI.out.rec ho z9, DJ.out.rec ho z9, below_only DB.out ho (by omega) (Nat.le_of_lt D4.out.lt), by omega, by omega⟩; clear ho z9 DB DI DJ p7 p9))
  refine wp_region_held_drew (S := TwoS w w1.heap.size w3.heap.size N1 u s1 d1 N2 v s2 d2) (by kernel_rfl) (by have h := HT0.out; exact ⟨h.r7, h.r9, h.r4, h.r5, h.i1, h.i2, h.bel.drew, h.n7, h.n9⟩) (fun hHeld => ?_)
  refine wpAnyH_take (i := 0) rfl (by kernel_rfl) (by kernel_rfl) (by kernel_rfl) (fun _ _ _ h => h) (yieldsIf_load44 (by rfl) (.tmp 7) rfl w1.heap.size rfl N1 u s1 (fun _ h => h.r7)) hHeld ?_
  try simp only [Act.put, List.getElem_toArray, List.getElem_cons_succ, List.getElem_cons_zero, List.setIfInBounds_toArray, List.set_cons_zero, List.set_cons_succ]
  refine wpAnyH_take (i := 1) rfl (by kernel_rfl) (by kernel_rfl) (by kernel_rfl) (fun _ _ _ h => h) (yieldsIf_load44 (by rfl) (.tmp 9) rfl w3.heap.size rfl N2 v s2 (fun _ h => h.r9)) hHeld ?_
  try simp only [Act.put, List.getElem_toArray, List.getElem_cons_succ, List.getElem_cons_zero, List.setIfInBounds_toArray, List.set_cons_zero, List.set_cons_succ]
  refine wpAnyH_take (i := 2) (v := .bool true) rfl (by kernel_rfl) (by kernel_rfl) (by kernel_rfl) (fun _ _ _ h => h) (Or.inl ⟨by rfl, fun W _ => by go_simp⟩) hHeld ?_
  try simp only [Act.put, List.getElem_toArray, List.getElem_cons_succ, List.getElem_cons_zero, List.setIfInBounds_toArray, List.set_cons_zero, List.set_cons_succ]
  refine wpAnyH_take (i := 3) (v := .bool true) rfl (by kernel_rfl) (by kernel_rfl) (by kernel_rfl) (fun _ _ _ h => h) (Or.inl ⟨by rfl, fun W _ => by go_simp⟩) hHeld ?_
  try simp only [Act.put, List.getElem_toArray, List.getElem_cons_succ, List.getElem_cons_zero, List.setIfInBounds_toArray, List.set_cons_zero, List.set_cons_succ]
  refine wpAnyH_take (i := 4) (v := .bool true) rfl (by kernel_rfl) (by kernel_rfl) (by kernel_rfl) (fun _ _ _ h => h) (Or.inl ⟨by rfl, fun W _ => by go_simp⟩) hHeld ?_
  try simp only [Act.put, List.getElem_toArray, List.getElem_cons_succ, List.getElem_cons_zero, List.setIfInBounds_toArray, List.set_cons_zero, List.set_cons_succ]
  refine wpAnyH_take (i := 5) (v := .bool true) rfl (by kernel_rfl) (by kernel_rfl) (by kernel_rfl) (fun _ _ _ h => h) (Or.inl ⟨by rfl, fun W _ => by go_simp⟩) hHeld ?_
  try simp only [Act.put, List.getElem_toArray, List.getElem_cons_succ, List.getElem_cons_zero, List.setIfInBounds_toArray, List.set_cons_zero, List.set_cons_succ]
  refine wpAnyH_take (i := 6) (v := .bool true) rfl (by kernel_rfl) (by kernel_rfl) (by kernel_rfl) (fun _ _ _ h => h) (Or.inl ⟨by rfl, fun W _ => by go_simp⟩) hHeld ?_
  try simp only [Act.put, List.getElem_toArray, List.getElem_cons_succ, List.getElem_cons_zero, List.setIfInBounds_toArray, List.set_cons_zero, List.set_cons_succ]
  refine wpAnyH_take (i := 7) (v := .string s) rfl (by kernel_rfl) (by kernel_rfl) (by kernel_rfl) (fun _ _ _ h => h) (Or.inl ⟨by rfl, fun W _ => by go_simp⟩) hHeld ?_
  try simp only [Act.put, List.getElem_toArray, List.getElem_cons_succ, List.getElem_cons_zero, List.setIfInBounds_toArray, List.set_cons_zero, List.set_cons_succ]
  refine wpAnyH_ready (rs := [8]) (by kernel_rfl) (by simp) ?_
  refine AllReadyH.cons rfl (fun K hK => ?_) AllReadyH.nil
  go_simp
  refine (C1.out.at _).mono ?_
  rintro e wc8 ⟨rfl, hbc⟩
  refine hK.out _ _ (hHeld.below hbc) (fun hHeld2 => ?_)
  clear hK K hbc hHeld
  have hHeld := hHeld2
  clear hHeld2
  try simp only [Act.put, List.getElem_toArray, List.getElem_cons_succ, List.getElem_cons_zero, List.setIfInBounds_toArray, List.set_cons_zero, List.set_cons_succ]
  refine wpAnyH_take (i := 9) (v := .bool true) rfl (by kernel_rfl) (by kernel_rfl) (by kernel_rfl) (fun _ _ _ h => h) (Or.inl ⟨by rfl, fun W _ => by go_simp⟩) hHeld ?_
  try simp only [Act.put, List.getElem_toArray, List.getElem_cons_succ, List.getElem_cons_zero, List.setIfInBounds_toArray, List.set_cons_zero, List.set_cons_succ]
  refine wpAnyH_take (i := 10) (v := .bool true) rfl (by kernel_rfl) (by kernel_rfl) (by kernel_rfl) (fun _ _ _ h => h) (Or.inl ⟨by rfl, fun W _ => by go_simp⟩) hHeld ?_
  try simp only [Act.put, List.getElem_toArray, List.getElem_cons_succ, List.getElem_cons_zero, List.setIfInBounds_toArray, List.set_cons_zero, List.set_cons_succ]
  refine wpAnyH_take (i := 11) (v := .string t) rfl (by kernel_rfl) (by kernel_rfl) (by kernel_rfl) (fun _ _ _ h => h) (Or.inl ⟨by rfl, fun W _ => by go_simp⟩) hHeld ?_
  try simp only [Act.put, List.getElem_toArray, List.getElem_cons_succ, List.getElem_cons_zero, List.setIfInBounds_toArray, List.set_cons_zero, List.set_cons_succ]
  refine wpAnyH_ready (rs := [12]) (by kernel_rfl) (by simp) ?_
  refine AllReadyH.cons rfl (fun K hK => ?_) AllReadyH.nil
  go_simp
  refine (C2.out.at _).mono ?_
  rintro e wc12 ⟨rfl, hbc⟩
  refine hK.out _ _ (hHeld.below hbc) (fun hHeld2 => ?_)
  clear hK K hbc hHeld
  have hHeld := hHeld2
  clear hHeld2
  try simp only [Act.put, List.getElem_toArray, List.getElem_cons_succ, List.getElem_cons_zero, List.setIfInBounds_toArray, List.set_cons_zero, List.set_cons_succ]
  refine wpAnyH_take (i := 13) (v := .bool c2) rfl (by kernel_rfl) (by kernel_rfl) (by kernel_rfl) (fun _ _ _ h => h) (Or.inl ⟨by rfl, fun W _ => by go_simp⟩) hHeld ?_
  try simp only [Act.put, List.getElem_toArray, List.getElem_cons_succ, List.getElem_cons_zero, List.setIfInBounds_toArray, List.set_cons_zero, List.set_cons_succ]
  obtain ⟨n4, z4, k4, e4⟩ := hHeld.r4
  have one1 := HO.out
  have one2 := HO2.out
  refine wpAnyH_ready (rs := [14]) (by kernel_rfl) (by simp) ?_
  refine AllReadyH.cons rfl (fun K hK => ?_) AllReadyH.nil
  rw [if_pos (by rfl)]
  refine wp_store44 (.tmp 4) (.tmp 21) rfl w.heap.size rfl rfl e4 one1 (fun w5 ho5 x4 => ?_)
  refine hK.out _ _ (hHeld.set4 ho5 x4) (fun hHeld2 => ?_)
  clear hK K ho5 e4 hHeld
  have hHeld := hHeld2
  clear hHeld2
  try simp only [Act.put, List.getElem_toArray, List.getElem_cons_succ, List.getElem_cons_zero, List.setIfInBounds_toArray, List.set_cons_zero, List.set_cons_succ]
  obtain ⟨n5, z5, k5, e5⟩ := hHeld.r5
  refine wpAnyH_ready (rs := [15]) (by kernel_rfl) (by simp) ?_
  refine AllReadyH.cons rfl (fun K hK => ?_) AllReadyH.nil
  rw [if_pos (by rfl)]
  refine wp_store44 (.tmp 5) (.tmp 22) rfl (w.heap.size + 1) rfl rfl e5 one2 (fun w6 ho6 x5 => ?_)
  have y4 := x4.only ho6 (by omega)
  refine hK.out _ _ (hHeld.set5 ho6 x5) (fun hHeld2 => ?_)
  clear hK K ho6 e5 hHeld
  have hHeld := hHeld2
  clear hHeld2
  try simp only [Act.put, List.getElem_toArray, List.getElem_cons_succ, List.getElem_cons_zero, List.setIfInBounds_toArray, List.set_cons_zero, List.set_cons_succ]
  refine wpAnyH_ready (rs := [16]) (by kernel_rfl) (by simp) ?_
  refine AllReadyH.cons rfl (fun K hK => ?_) AllReadyH.nil
  go_simp
  refine hK.out _ _ hHeld (fun hHeld2 => ?_)
  have HF := Lib.hid hHeld
  clear hK K hHeld2 hHeld
  try simp only [Act.put, List.getElem_toArray, List.getElem_cons_succ, List.getElem_cons_zero, List.setIfInBounds_toArray, List.set_cons_zero, List.set_cons_succ]
  refine wpAnyH_done (by kernel_rfl) ?_ _
  go_wp2_with fail
  exact bodyPost_ret (v := .tuple #[.agg #[.bool N1, u, .int .i64 s1], .agg #[.bool N2, v, .int .i64 s2], .bool c2]) (results442 (p := 4) (p2 := 5) (q := 6) Tryz.results25 _ (.bool c2) rfl rfl rfl y4 x5) rfl ⟨u, v, rfl, HF.out.i1, HF.out.i2, HF.out.bel⟩

set_option maxRecDepth 20000 in
set_option maxHeartbeats 3200000 in
theorem two_f (s t : ByteArray) (N1 N2 : Bool) (s1 s2 : Int) (d1 d2 : List Nat) (o2 c1 c2 : Bool) (w : World) (P1 : Hid (ParsedAs s N1 s1 d1 false)) (P2 : Hid (ParsedAs t N2 s2 d2 o2)) (C1 : Hid (CheckedAs s c1)) (C2 : Hid (CheckedAs t c2)) :
    Calls Tryz.prog 25 #[.string s, .string t] w fun e w' => ∃ u v, e = .returned (.tuple #[.agg #[.bool N1, u, .int .i64 s1], .agg #[.bool N2, v, .int .i64 s2], .bool false]) ∧ Ints w' u d1 ∧ Ints w' v d2 ∧ Below w.heap.size w w' := by
  have q4 : Rec ((w.alloc (.cells #[.bool false, .slice none 0 0, .int .i64 0] 47)).alloc (.cells #[.bool false, .slice none 0 0, .int .i64 0] 47)) w.heap.size false (.slice none 0 0) 0 := (rec_new w rfl).alloc _
  have q5 : Rec ((w.alloc (.cells #[.bool false, .slice none 0 0, .int .i64 0] 47)).alloc (.cells #[.bool false, .slice none 0 0, .int .i64 0] 47)) (w.heap.size + 1) false (.slice none 0 0) 0 := rec_new _ (by simp)
  have hb0 : Below w.heap.size w ((w.alloc (.cells #[.bool false, .slice none 0 0, .int .i64 0] 47)).alloc (.cells #[.bool false, .slice none 0 0, .int .i64 0] 47)) := ((Below.refl _ _).alloc (Nat.le_refl _) _).alloc (by simp) _
  have Q4 := Lib.hid q4
  have Q5 := Lib.hid q5
  have HB0 := Lib.hid hb0
  clear q4 q5 hb0
  go_enter Tryz.func25, Tryz.ntmps25
  go_wp2_with (first
    | (go_at_call 35; (with_reducible refine (P1.out.at _).mono ?_); rintro e w1 ⟨u, rfl, hi, hb⟩; have z7 := rec_new w1 rfl; have A4 := Lib.hid ((Q4.out.below hb).alloc (.cells #[.bool false, .slice none 0 0, .int .i64 0] 47)); have A5 := Lib.hid ((Q5.out.below hb).alloc (.cells #[.bool false, .slice none 0 0, .int .i64 0] 47)); have hs7 : w.heap.size + 2 ≤ w1.heap.size := by have := hb.size; simp at this; omega
       have AB := Lib.hid ((below_any HB0.out hb HB0.out.size).alloc (by omega) (.cells #[.bool false, .slice none 0 0, .int .i64 0] 47)); have AI := Lib.hid (hi.below ((Below.refl w1.heap.size w1).alloc (Nat.le_refl _) (.cells #[.bool false, .slice none 0 0, .int .i64 0] 47))); have HO := Lib.hid (ints_one hi); clear hb hi)
    | ((with_reducible refine wpList_store44 (m := N1) (u := u) (sd := s1) (.tmp 7) (.tmp 14) w1.heap.size z7 HO.out ?_ ?_ ?_ ?_ ?_); rfl; rfl; rfl; rfl; intro w2 ho p7; have B4 := Lib.hid (A4.out.only ho (by omega)); have B5 := Lib.hid (A5.out.only ho (by omega)); have BI := Lib.hid (AI.out.rec ho z7); have BB := Lib.hid (below_only AB.out ho (by omega) (Nat.le_of_lt A4.out.lt)); clear ho AB AI z7)
    | (go_at_call 35; (with_reducible refine (P2.out.at _).mono ?_); rintro e w3 ⟨v, rfl, hi, hb⟩; have z9 := rec_new w3 rfl; have hs9 : w1.heap.size + 1 ≤ w3.heap.size := by have := hb.size; have := p7.lt; omega
       have D4 := Lib.hid ((B4.out.below hb).alloc (.cells #[.bool false, .slice none 0 0, .int .i64 0] 47)); have D5 := Lib.hid ((B5.out.below hb).alloc (.cells #[.bool false, .slice none 0 0, .int .i64 0] 47)); have D7 := Lib.hid ((p7.below hb).alloc (.cells #[.bool false, .slice none 0 0, .int .i64 0] 47)); have DB := Lib.hid ((below_any BB.out hb BB.out.size).alloc (by omega) (.cells #[.bool false, .slice none 0 0, .int .i64 0] 47)); have DI := Lib.hid ((BI.out.below hb).below ((Below.refl w3.heap.size w3).alloc (Nat.le_refl _) (.cells #[.bool false, .slice none 0 0, .int .i64 0] 47))); have DJ := Lib.hid (hi.below ((Below.refl w3.heap.size w3).alloc (Nat.le_refl _) (.cells #[.bool false, .slice none 0 0, .int .i64 0] 47))); have HO2 := Lib.hid (ints_one hi); clear hb hi)
    | ((with_reducible refine wpList_store44 (m := N2) (u := v) (sd := s2) (.tmp 9) (.tmp 19) w3.heap.size z9 HO2.out ?_ ?_ ?_ ?_ ?_); rfl; rfl; rfl; rfl; intro w4 ho p9; have HT0 : Hid (TwoS w w1.heap.size w3.heap.size N1 u s1 d1 N2 v s2 d2 w4) := Lib.hid ⟨D7.out.only ho (by omega), p9, ⟨_, _, _, D4.out.only ho (by omega)⟩, ⟨_, _, _, D5.out.only ho (by omega)⟩, DI.out.rec ho z9, DJ.out.rec ho z9, below_only DB.out ho (by omega) (Nat.le_of_lt D4.out.lt), by omega, by omega⟩; clear ho z9 DB DI DJ p7 p9))
  refine wp_region_held_drew (S := TwoS w w1.heap.size w3.heap.size N1 u s1 d1 N2 v s2 d2) (by kernel_rfl) (by have h := HT0.out; exact ⟨h.r7, h.r9, h.r4, h.r5, h.i1, h.i2, h.bel.drew, h.n7, h.n9⟩) (fun hHeld => ?_)
  refine wpAnyH_take (i := 0) rfl (by kernel_rfl) (by kernel_rfl) (by kernel_rfl) (fun _ _ _ h => h) (yieldsIf_load44 (by rfl) (.tmp 7) rfl w1.heap.size rfl N1 u s1 (fun _ h => h.r7)) hHeld ?_
  try simp only [Act.put, List.getElem_toArray, List.getElem_cons_succ, List.getElem_cons_zero, List.setIfInBounds_toArray, List.set_cons_zero, List.set_cons_succ]
  refine wpAnyH_take (i := 1) rfl (by kernel_rfl) (by kernel_rfl) (by kernel_rfl) (fun _ _ _ h => h) (yieldsIf_load44 (by rfl) (.tmp 9) rfl w3.heap.size rfl N2 v s2 (fun _ h => h.r9)) hHeld ?_
  try simp only [Act.put, List.getElem_toArray, List.getElem_cons_succ, List.getElem_cons_zero, List.setIfInBounds_toArray, List.set_cons_zero, List.set_cons_succ]
  refine wpAnyH_take (i := 2) (v := .bool false) rfl (by kernel_rfl) (by kernel_rfl) (by kernel_rfl) (fun _ _ _ h => h) (Or.inl ⟨by rfl, fun W _ => by go_simp⟩) hHeld ?_
  try simp only [Act.put, List.getElem_toArray, List.getElem_cons_succ, List.getElem_cons_zero, List.setIfInBounds_toArray, List.set_cons_zero, List.set_cons_succ]
  refine wpAnyH_take (i := 3) (v := .bool false) rfl (by kernel_rfl) (by kernel_rfl) (by kernel_rfl) (fun _ _ _ h => h) (Or.inl ⟨by rfl, fun W _ => by go_simp⟩) hHeld ?_
  try simp only [Act.put, List.getElem_toArray, List.getElem_cons_succ, List.getElem_cons_zero, List.setIfInBounds_toArray, List.set_cons_zero, List.set_cons_succ]
  refine wpAnyH_take (i := 4) (v := undef) rfl (by kernel_rfl) (by kernel_rfl) (by kernel_rfl) (fun _ _ _ h => h) (Or.inr ⟨by rfl, rfl⟩) hHeld ?_
  try simp only [Act.put, List.getElem_toArray, List.getElem_cons_succ, List.getElem_cons_zero, List.setIfInBounds_toArray, List.set_cons_zero, List.set_cons_succ]
  refine wpAnyH_take (i := 5) (v := .bool false) rfl (by kernel_rfl) (by kernel_rfl) (by kernel_rfl) (fun _ _ _ h => h) (Or.inl ⟨by rfl, fun W _ => by go_simp⟩) hHeld ?_
  try simp only [Act.put, List.getElem_toArray, List.getElem_cons_succ, List.getElem_cons_zero, List.setIfInBounds_toArray, List.set_cons_zero, List.set_cons_succ]
  refine wpAnyH_take (i := 6) (v := .bool false) rfl (by kernel_rfl) (by kernel_rfl) (by kernel_rfl) (fun _ _ _ h => h) (Or.inl ⟨by rfl, fun W _ => by go_simp⟩) hHeld ?_
  try simp only [Act.put, List.getElem_toArray, List.getElem_cons_succ, List.getElem_cons_zero, List.setIfInBounds_toArray, List.set_cons_zero, List.set_cons_succ]
  refine wpAnyH_take (i := 7) (v := undef) rfl (by kernel_rfl) (by kernel_rfl) (by kernel_rfl) (fun _ _ _ h => h) (Or.inr ⟨by rfl, rfl⟩) hHeld ?_
  try simp only [Act.put, List.getElem_toArray, List.getElem_cons_succ, List.getElem_cons_zero, List.setIfInBounds_toArray, List.set_cons_zero, List.set_cons_succ]
  refine wpAnyH_take (i := 8) (v := undef) rfl (by kernel_rfl) (by kernel_rfl) (by kernel_rfl) (fun _ _ _ h => h) (Or.inr ⟨by rfl, rfl⟩) hHeld ?_
  try simp only [Act.put, List.getElem_toArray, List.getElem_cons_succ, List.getElem_cons_zero, List.setIfInBounds_toArray, List.set_cons_zero, List.set_cons_succ]
  refine wpAnyH_take (i := 9) (v := .bool false) rfl (by kernel_rfl) (by kernel_rfl) (by kernel_rfl) (fun _ _ _ h => h) (Or.inl ⟨by rfl, fun W _ => by go_simp⟩) hHeld ?_
  try simp only [Act.put, List.getElem_toArray, List.getElem_cons_succ, List.getElem_cons_zero, List.setIfInBounds_toArray, List.set_cons_zero, List.set_cons_succ]
  refine wpAnyH_take (i := 10) (v := .bool false) rfl (by kernel_rfl) (by kernel_rfl) (by kernel_rfl) (fun _ _ _ h => h) (Or.inl ⟨by rfl, fun W _ => by go_simp⟩) hHeld ?_
  try simp only [Act.put, List.getElem_toArray, List.getElem_cons_succ, List.getElem_cons_zero, List.setIfInBounds_toArray, List.set_cons_zero, List.set_cons_succ]
  refine wpAnyH_take (i := 11) (v := undef) rfl (by kernel_rfl) (by kernel_rfl) (by kernel_rfl) (fun _ _ _ h => h) (Or.inr ⟨by rfl, rfl⟩) hHeld ?_
  try simp only [Act.put, List.getElem_toArray, List.getElem_cons_succ, List.getElem_cons_zero, List.setIfInBounds_toArray, List.set_cons_zero, List.set_cons_succ]
  refine wpAnyH_take (i := 12) (v := undef) rfl (by kernel_rfl) (by kernel_rfl) (by kernel_rfl) (fun _ _ _ h => h) (Or.inr ⟨by rfl, rfl⟩) hHeld ?_
  try simp only [Act.put, List.getElem_toArray, List.getElem_cons_succ, List.getElem_cons_zero, List.setIfInBounds_toArray, List.set_cons_zero, List.set_cons_succ]
  refine wpAnyH_take (i := 13) (v := .bool false) rfl (by kernel_rfl) (by kernel_rfl) (by kernel_rfl) (fun _ _ _ h => h) (Or.inl ⟨by rfl, fun W _ => by go_simp⟩) hHeld ?_
  try simp only [Act.put, List.getElem_toArray, List.getElem_cons_succ, List.getElem_cons_zero, List.setIfInBounds_toArray, List.set_cons_zero, List.set_cons_succ]
  obtain ⟨n4, z4, k4, e4⟩ := hHeld.r4
  have one1 := HO.out
  have one2 := HO2.out
  refine wpAnyH_ready (rs := [14]) (by kernel_rfl) (by simp) ?_
  refine AllReadyH.cons rfl (fun K hK => ?_) AllReadyH.nil
  rw [if_pos (by rfl)]
  refine wp_store44 (.tmp 4) (.tmp 21) rfl w.heap.size rfl rfl e4 one1 (fun w5 ho5 x4 => ?_)
  refine hK.out _ _ (hHeld.set4 ho5 x4) (fun hHeld2 => ?_)
  clear hK K ho5 e4 hHeld
  have hHeld := hHeld2
  clear hHeld2
  try simp only [Act.put, List.getElem_toArray, List.getElem_cons_succ, List.getElem_cons_zero, List.setIfInBounds_toArray, List.set_cons_zero, List.set_cons_succ]
  obtain ⟨n5, z5, k5, e5⟩ := hHeld.r5
  refine wpAnyH_ready (rs := [15]) (by kernel_rfl) (by simp) ?_
  refine AllReadyH.cons rfl (fun K hK => ?_) AllReadyH.nil
  rw [if_pos (by rfl)]
  refine wp_store44 (.tmp 5) (.tmp 22) rfl (w.heap.size + 1) rfl rfl e5 one2 (fun w6 ho6 x5 => ?_)
  have y4 := x4.only ho6 (by omega)
  refine hK.out _ _ (hHeld.set5 ho6 x5) (fun hHeld2 => ?_)
  clear hK K ho6 e5 hHeld
  have hHeld := hHeld2
  clear hHeld2
  try simp only [Act.put, List.getElem_toArray, List.getElem_cons_succ, List.getElem_cons_zero, List.setIfInBounds_toArray, List.set_cons_zero, List.set_cons_succ]
  refine wpAnyH_ready (rs := [16]) (by kernel_rfl) (by simp) ?_
  refine AllReadyH.cons rfl (fun K hK => ?_) AllReadyH.nil
  go_simp
  refine hK.out _ _ hHeld (fun hHeld2 => ?_)
  have HF := Lib.hid hHeld
  clear hK K hHeld2 hHeld
  try simp only [Act.put, List.getElem_toArray, List.getElem_cons_succ, List.getElem_cons_zero, List.setIfInBounds_toArray, List.set_cons_zero, List.set_cons_succ]
  refine wpAnyH_done (by kernel_rfl) ?_ _
  go_wp2_with fail
  exact bodyPost_ret (v := .tuple #[.agg #[.bool N1, u, .int .i64 s1], .agg #[.bool N2, v, .int .i64 s2], .bool false]) (results442 (p := 4) (p2 := 5) (q := 6) Tryz.results25 _ (.bool false) rfl rfl rfl y4 x5) rfl ⟨u, v, rfl, HF.out.i1, HF.out.i2, HF.out.bel⟩

set_option maxRecDepth 20000 in
set_option maxHeartbeats 3200000 in
theorem two_tf (s t : ByteArray) (N1 N2 : Bool) (s1 s2 : Int) (d1 d2 : List Nat) (c1 c2 : Bool) (w : World) (P1 : Hid (ParsedAs s N1 s1 d1 true)) (P2 : Hid (ParsedAs t N2 s2 d2 false)) (C1 : Hid (CheckedAs s c1)) (C2 : Hid (CheckedAs t c2)) :
    Calls Tryz.prog 25 #[.string s, .string t] w fun e w' => ∃ u v, e = .returned (.tuple #[.agg #[.bool N1, u, .int .i64 s1], .agg #[.bool N2, v, .int .i64 s2], .bool false]) ∧ Ints w' u d1 ∧ Ints w' v d2 ∧ Below w.heap.size w w' := by
  have q4 : Rec ((w.alloc (.cells #[.bool false, .slice none 0 0, .int .i64 0] 47)).alloc (.cells #[.bool false, .slice none 0 0, .int .i64 0] 47)) w.heap.size false (.slice none 0 0) 0 := (rec_new w rfl).alloc _
  have q5 : Rec ((w.alloc (.cells #[.bool false, .slice none 0 0, .int .i64 0] 47)).alloc (.cells #[.bool false, .slice none 0 0, .int .i64 0] 47)) (w.heap.size + 1) false (.slice none 0 0) 0 := rec_new _ (by simp)
  have hb0 : Below w.heap.size w ((w.alloc (.cells #[.bool false, .slice none 0 0, .int .i64 0] 47)).alloc (.cells #[.bool false, .slice none 0 0, .int .i64 0] 47)) := ((Below.refl _ _).alloc (Nat.le_refl _) _).alloc (by simp) _
  have Q4 := Lib.hid q4
  have Q5 := Lib.hid q5
  have HB0 := Lib.hid hb0
  clear q4 q5 hb0
  go_enter Tryz.func25, Tryz.ntmps25
  go_wp2_with (first
    | (go_at_call 35; (with_reducible refine (P1.out.at _).mono ?_); rintro e w1 ⟨u, rfl, hi, hb⟩; have z7 := rec_new w1 rfl; have A4 := Lib.hid ((Q4.out.below hb).alloc (.cells #[.bool false, .slice none 0 0, .int .i64 0] 47)); have A5 := Lib.hid ((Q5.out.below hb).alloc (.cells #[.bool false, .slice none 0 0, .int .i64 0] 47)); have hs7 : w.heap.size + 2 ≤ w1.heap.size := by have := hb.size; simp at this; omega
       have AB := Lib.hid ((below_any HB0.out hb HB0.out.size).alloc (by omega) (.cells #[.bool false, .slice none 0 0, .int .i64 0] 47)); have AI := Lib.hid (hi.below ((Below.refl w1.heap.size w1).alloc (Nat.le_refl _) (.cells #[.bool false, .slice none 0 0, .int .i64 0] 47))); have HO := Lib.hid (ints_one hi); clear hb hi)
    | ((with_reducible refine wpList_store44 (m := N1) (u := u) (sd := s1) (.tmp 7) (.tmp 14) w1.heap.size z7 HO.out ?_ ?_ ?_ ?_ ?_); rfl; rfl; rfl; rfl; intro w2 ho p7; have B4 := Lib.hid (A4.out.only ho (by omega)); have B5 := Lib.hid (A5.out.only ho (by omega)); have BI := Lib.hid (AI.out.rec ho z7); have BB := Lib.hid (below_only AB.out ho (by omega) (Nat.le_of_lt A4.out.lt)); clear ho AB AI z7)
    | (go_at_call 35; (with_reducible refine (P2.out.at _).mono ?_); rintro e w3 ⟨v, rfl, hi, hb⟩; have z9 := rec_new w3 rfl; have hs9 : w1.heap.size + 1 ≤ w3.heap.size := by have := hb.size; have := p7.lt; omega
       have D4 := Lib.hid ((B4.out.below hb).alloc (.cells #[.bool false, .slice none 0 0, .int .i64 0] 47)); have D5 := Lib.hid ((B5.out.below hb).alloc (.cells #[.bool false, .slice none 0 0, .int .i64 0] 47)); have D7 := Lib.hid ((p7.below hb).alloc (.cells #[.bool false, .slice none 0 0, .int .i64 0] 47)); have DB := Lib.hid ((below_any BB.out hb BB.out.size).alloc (by omega) (.cells #[.bool false, .slice none 0 0, .int .i64 0] 47)); have DI := Lib.hid ((BI.out.below hb).below ((Below.refl w3.heap.size w3).alloc (Nat.le_refl _) (.cells #[.bool false, .slice none 0 0, .int .i64 0] 47))); have DJ := Lib.hid (hi.below ((Below.refl w3.heap.size w3).alloc (Nat.le_refl _) (.cells #[.bool false, .slice none 0 0, .int .i64 0] 47))); have HO2 := Lib.hid (ints_one hi); clear hb hi)
    | ((with_reducible refine wpList_store44 (m := N2) (u := v) (sd := s2) (.tmp 9) (.tmp 19) w3.heap.size z9 HO2.out ?_ ?_ ?_ ?_ ?_); rfl; rfl; rfl; rfl; intro w4 ho p9; have HT0 : Hid (TwoS w w1.heap.size w3.heap.size N1 u s1 d1 N2 v s2 d2 w4) := Lib.hid ⟨D7.out.only ho (by omega), p9, ⟨_, _, _, D4.out.only ho (by omega)⟩, ⟨_, _, _, D5.out.only ho (by omega)⟩, DI.out.rec ho z9, DJ.out.rec ho z9, below_only DB.out ho (by omega) (Nat.le_of_lt D4.out.lt), by omega, by omega⟩; clear ho z9 DB DI DJ p7 p9))
  refine wp_region_held_drew (S := TwoS w w1.heap.size w3.heap.size N1 u s1 d1 N2 v s2 d2) (by kernel_rfl) (by have h := HT0.out; exact ⟨h.r7, h.r9, h.r4, h.r5, h.i1, h.i2, h.bel.drew, h.n7, h.n9⟩) (fun hHeld => ?_)
  refine wpAnyH_take (i := 0) rfl (by kernel_rfl) (by kernel_rfl) (by kernel_rfl) (fun _ _ _ h => h) (yieldsIf_load44 (by rfl) (.tmp 7) rfl w1.heap.size rfl N1 u s1 (fun _ h => h.r7)) hHeld ?_
  try simp only [Act.put, List.getElem_toArray, List.getElem_cons_succ, List.getElem_cons_zero, List.setIfInBounds_toArray, List.set_cons_zero, List.set_cons_succ]
  refine wpAnyH_take (i := 1) rfl (by kernel_rfl) (by kernel_rfl) (by kernel_rfl) (fun _ _ _ h => h) (yieldsIf_load44 (by rfl) (.tmp 9) rfl w3.heap.size rfl N2 v s2 (fun _ h => h.r9)) hHeld ?_
  try simp only [Act.put, List.getElem_toArray, List.getElem_cons_succ, List.getElem_cons_zero, List.setIfInBounds_toArray, List.set_cons_zero, List.set_cons_succ]
  refine wpAnyH_take (i := 2) (v := .bool true) rfl (by kernel_rfl) (by kernel_rfl) (by kernel_rfl) (fun _ _ _ h => h) (Or.inl ⟨by rfl, fun W _ => by go_simp⟩) hHeld ?_
  try simp only [Act.put, List.getElem_toArray, List.getElem_cons_succ, List.getElem_cons_zero, List.setIfInBounds_toArray, List.set_cons_zero, List.set_cons_succ]
  refine wpAnyH_take (i := 3) (v := .bool true) rfl (by kernel_rfl) (by kernel_rfl) (by kernel_rfl) (fun _ _ _ h => h) (Or.inl ⟨by rfl, fun W _ => by go_simp⟩) hHeld ?_
  try simp only [Act.put, List.getElem_toArray, List.getElem_cons_succ, List.getElem_cons_zero, List.setIfInBounds_toArray, List.set_cons_zero, List.set_cons_succ]
  refine wpAnyH_take (i := 4) (v := .bool false) rfl (by kernel_rfl) (by kernel_rfl) (by kernel_rfl) (fun _ _ _ h => h) (Or.inl ⟨by rfl, fun W _ => by go_simp⟩) hHeld ?_
  try simp only [Act.put, List.getElem_toArray, List.getElem_cons_succ, List.getElem_cons_zero, List.setIfInBounds_toArray, List.set_cons_zero, List.set_cons_succ]
  refine wpAnyH_take (i := 5) (v := .bool false) rfl (by kernel_rfl) (by kernel_rfl) (by kernel_rfl) (fun _ _ _ h => h) (Or.inl ⟨by rfl, fun W _ => by go_simp⟩) hHeld ?_
  try simp only [Act.put, List.getElem_toArray, List.getElem_cons_succ, List.getElem_cons_zero, List.setIfInBounds_toArray, List.set_cons_zero, List.set_cons_succ]
  refine wpAnyH_take (i := 6) (v := .bool false) rfl (by kernel_rfl) (by kernel_rfl) (by kernel_rfl) (fun _ _ _ h => h) (Or.inl ⟨by rfl, fun W _ => by go_simp⟩) hHeld ?_
  try simp only [Act.put, List.getElem_toArray, List.getElem_cons_succ, List.getElem_cons_zero, List.setIfInBounds_toArray, List.set_cons_zero, List.set_cons_succ]
  refine wpAnyH_take (i := 7) (v := undef) rfl (by kernel_rfl) (by kernel_rfl) (by kernel_rfl) (fun _ _ _ h => h) (Or.inr ⟨by rfl, rfl⟩) hHeld ?_
  try simp only [Act.put, List.getElem_toArray, List.getElem_cons_succ, List.getElem_cons_zero, List.setIfInBounds_toArray, List.set_cons_zero, List.set_cons_succ]
  refine wpAnyH_take (i := 8) (v := undef) rfl (by kernel_rfl) (by kernel_rfl) (by kernel_rfl) (fun _ _ _ h => h) (Or.inr ⟨by rfl, rfl⟩) hHeld ?_
  try simp only [Act.put, List.getElem_toArray, List.getElem_cons_succ, List.getElem_cons_zero, List.setIfInBounds_toArray, List.set_cons_zero, List.set_cons_succ]
  refine wpAnyH_take (i := 9) (v := .bool false) rfl (by kernel_rfl) (by kernel_rfl) (by kernel_rfl) (fun _ _ _ h => h) (Or.inl ⟨by rfl, fun W _ => by go_simp⟩) hHeld ?_
  try simp only [Act.put, List.getElem_toArray, List.getElem_cons_succ, List.getElem_cons_zero, List.setIfInBounds_toArray, List.set_cons_zero, List.set_cons_succ]
  refine wpAnyH_take (i := 10) (v := .bool false) rfl (by kernel_rfl) (by kernel_rfl) (by kernel_rfl) (fun _ _ _ h => h) (Or.inl ⟨by rfl, fun W _ => by go_simp⟩) hHeld ?_
  try simp only [Act.put, List.getElem_toArray, List.getElem_cons_succ, List.getElem_cons_zero, List.setIfInBounds_toArray, List.set_cons_zero, List.set_cons_succ]
  refine wpAnyH_take (i := 11) (v := undef) rfl (by kernel_rfl) (by kernel_rfl) (by kernel_rfl) (fun _ _ _ h => h) (Or.inr ⟨by rfl, rfl⟩) hHeld ?_
  try simp only [Act.put, List.getElem_toArray, List.getElem_cons_succ, List.getElem_cons_zero, List.setIfInBounds_toArray, List.set_cons_zero, List.set_cons_succ]
  refine wpAnyH_take (i := 12) (v := undef) rfl (by kernel_rfl) (by kernel_rfl) (by kernel_rfl) (fun _ _ _ h => h) (Or.inr ⟨by rfl, rfl⟩) hHeld ?_
  try simp only [Act.put, List.getElem_toArray, List.getElem_cons_succ, List.getElem_cons_zero, List.setIfInBounds_toArray, List.set_cons_zero, List.set_cons_succ]
  refine wpAnyH_take (i := 13) (v := .bool false) rfl (by kernel_rfl) (by kernel_rfl) (by kernel_rfl) (fun _ _ _ h => h) (Or.inl ⟨by rfl, fun W _ => by go_simp⟩) hHeld ?_
  try simp only [Act.put, List.getElem_toArray, List.getElem_cons_succ, List.getElem_cons_zero, List.setIfInBounds_toArray, List.set_cons_zero, List.set_cons_succ]
  obtain ⟨n4, z4, k4, e4⟩ := hHeld.r4
  have one1 := HO.out
  have one2 := HO2.out
  refine wpAnyH_ready (rs := [14]) (by kernel_rfl) (by simp) ?_
  refine AllReadyH.cons rfl (fun K hK => ?_) AllReadyH.nil
  rw [if_pos (by rfl)]
  refine wp_store44 (.tmp 4) (.tmp 21) rfl w.heap.size rfl rfl e4 one1 (fun w5 ho5 x4 => ?_)
  refine hK.out _ _ (hHeld.set4 ho5 x4) (fun hHeld2 => ?_)
  clear hK K ho5 e4 hHeld
  have hHeld := hHeld2
  clear hHeld2
  try simp only [Act.put, List.getElem_toArray, List.getElem_cons_succ, List.getElem_cons_zero, List.setIfInBounds_toArray, List.set_cons_zero, List.set_cons_succ]
  obtain ⟨n5, z5, k5, e5⟩ := hHeld.r5
  refine wpAnyH_ready (rs := [15]) (by kernel_rfl) (by simp) ?_
  refine AllReadyH.cons rfl (fun K hK => ?_) AllReadyH.nil
  rw [if_pos (by rfl)]
  refine wp_store44 (.tmp 5) (.tmp 22) rfl (w.heap.size + 1) rfl rfl e5 one2 (fun w6 ho6 x5 => ?_)
  have y4 := x4.only ho6 (by omega)
  refine hK.out _ _ (hHeld.set5 ho6 x5) (fun hHeld2 => ?_)
  clear hK K ho6 e5 hHeld
  have hHeld := hHeld2
  clear hHeld2
  try simp only [Act.put, List.getElem_toArray, List.getElem_cons_succ, List.getElem_cons_zero, List.setIfInBounds_toArray, List.set_cons_zero, List.set_cons_succ]
  refine wpAnyH_ready (rs := [16]) (by kernel_rfl) (by simp) ?_
  refine AllReadyH.cons rfl (fun K hK => ?_) AllReadyH.nil
  go_simp
  refine hK.out _ _ hHeld (fun hHeld2 => ?_)
  have HF := Lib.hid hHeld
  clear hK K hHeld2 hHeld
  try simp only [Act.put, List.getElem_toArray, List.getElem_cons_succ, List.getElem_cons_zero, List.setIfInBounds_toArray, List.set_cons_zero, List.set_cons_succ]
  refine wpAnyH_done (by kernel_rfl) ?_ _
  go_wp2_with fail
  exact bodyPost_ret (v := .tuple #[.agg #[.bool N1, u, .int .i64 s1], .agg #[.bool N2, v, .int .i64 s2], .bool false]) (results442 (p := 4) (p2 := 5) (q := 6) Tryz.results25 _ (.bool false) rfl rfl rfl y4 x5) rfl ⟨u, v, rfl, HF.out.i1, HF.out.i2, HF.out.bel⟩

set_option maxRecDepth 20000 in
set_option maxHeartbeats 3200000 in
theorem two_ttf (s t : ByteArray) (N1 N2 : Bool) (s1 s2 : Int) (d1 d2 : List Nat) (c2 : Bool) (w : World) (P1 : Hid (ParsedAs s N1 s1 d1 true)) (P2 : Hid (ParsedAs t N2 s2 d2 true)) (C1 : Hid (CheckedAs s false)) (C2 : Hid (CheckedAs t c2)) :
    Calls Tryz.prog 25 #[.string s, .string t] w fun e w' => ∃ u v, e = .returned (.tuple #[.agg #[.bool N1, u, .int .i64 s1], .agg #[.bool N2, v, .int .i64 s2], .bool false]) ∧ Ints w' u d1 ∧ Ints w' v d2 ∧ Below w.heap.size w w' := by
  have q4 : Rec ((w.alloc (.cells #[.bool false, .slice none 0 0, .int .i64 0] 47)).alloc (.cells #[.bool false, .slice none 0 0, .int .i64 0] 47)) w.heap.size false (.slice none 0 0) 0 := (rec_new w rfl).alloc _
  have q5 : Rec ((w.alloc (.cells #[.bool false, .slice none 0 0, .int .i64 0] 47)).alloc (.cells #[.bool false, .slice none 0 0, .int .i64 0] 47)) (w.heap.size + 1) false (.slice none 0 0) 0 := rec_new _ (by simp)
  have hb0 : Below w.heap.size w ((w.alloc (.cells #[.bool false, .slice none 0 0, .int .i64 0] 47)).alloc (.cells #[.bool false, .slice none 0 0, .int .i64 0] 47)) := ((Below.refl _ _).alloc (Nat.le_refl _) _).alloc (by simp) _
  have Q4 := Lib.hid q4
  have Q5 := Lib.hid q5
  have HB0 := Lib.hid hb0
  clear q4 q5 hb0
  go_enter Tryz.func25, Tryz.ntmps25
  go_wp2_with (first
    | (go_at_call 35; (with_reducible refine (P1.out.at _).mono ?_); rintro e w1 ⟨u, rfl, hi, hb⟩; have z7 := rec_new w1 rfl; have A4 := Lib.hid ((Q4.out.below hb).alloc (.cells #[.bool false, .slice none 0 0, .int .i64 0] 47)); have A5 := Lib.hid ((Q5.out.below hb).alloc (.cells #[.bool false, .slice none 0 0, .int .i64 0] 47)); have hs7 : w.heap.size + 2 ≤ w1.heap.size := by have := hb.size; simp at this; omega
       have AB := Lib.hid ((below_any HB0.out hb HB0.out.size).alloc (by omega) (.cells #[.bool false, .slice none 0 0, .int .i64 0] 47)); have AI := Lib.hid (hi.below ((Below.refl w1.heap.size w1).alloc (Nat.le_refl _) (.cells #[.bool false, .slice none 0 0, .int .i64 0] 47))); have HO := Lib.hid (ints_one hi); clear hb hi)
    | ((with_reducible refine wpList_store44 (m := N1) (u := u) (sd := s1) (.tmp 7) (.tmp 14) w1.heap.size z7 HO.out ?_ ?_ ?_ ?_ ?_); rfl; rfl; rfl; rfl; intro w2 ho p7; have B4 := Lib.hid (A4.out.only ho (by omega)); have B5 := Lib.hid (A5.out.only ho (by omega)); have BI := Lib.hid (AI.out.rec ho z7); have BB := Lib.hid (below_only AB.out ho (by omega) (Nat.le_of_lt A4.out.lt)); clear ho AB AI z7)
    | (go_at_call 35; (with_reducible refine (P2.out.at _).mono ?_); rintro e w3 ⟨v, rfl, hi, hb⟩; have z9 := rec_new w3 rfl; have hs9 : w1.heap.size + 1 ≤ w3.heap.size := by have := hb.size; have := p7.lt; omega
       have D4 := Lib.hid ((B4.out.below hb).alloc (.cells #[.bool false, .slice none 0 0, .int .i64 0] 47)); have D5 := Lib.hid ((B5.out.below hb).alloc (.cells #[.bool false, .slice none 0 0, .int .i64 0] 47)); have D7 := Lib.hid ((p7.below hb).alloc (.cells #[.bool false, .slice none 0 0, .int .i64 0] 47)); have DB := Lib.hid ((below_any BB.out hb BB.out.size).alloc (by omega) (.cells #[.bool false, .slice none 0 0, .int .i64 0] 47)); have DI := Lib.hid ((BI.out.below hb).below ((Below.refl w3.heap.size w3).alloc (Nat.le_refl _) (.cells #[.bool false, .slice none 0 0, .int .i64 0] 47))); have DJ := Lib.hid (hi.below ((Below.refl w3.heap.size w3).alloc (Nat.le_refl _) (.cells #[.bool false, .slice none 0 0, .int .i64 0] 47))); have HO2 := Lib.hid (ints_one hi); clear hb hi)
    | ((with_reducible refine wpList_store44 (m := N2) (u := v) (sd := s2) (.tmp 9) (.tmp 19) w3.heap.size z9 HO2.out ?_ ?_ ?_ ?_ ?_); rfl; rfl; rfl; rfl; intro w4 ho p9; have HT0 : Hid (TwoS w w1.heap.size w3.heap.size N1 u s1 d1 N2 v s2 d2 w4) := Lib.hid ⟨D7.out.only ho (by omega), p9, ⟨_, _, _, D4.out.only ho (by omega)⟩, ⟨_, _, _, D5.out.only ho (by omega)⟩, DI.out.rec ho z9, DJ.out.rec ho z9, below_only DB.out ho (by omega) (Nat.le_of_lt D4.out.lt), by omega, by omega⟩; clear ho z9 DB DI DJ p7 p9))
  refine wp_region_held_drew (S := TwoS w w1.heap.size w3.heap.size N1 u s1 d1 N2 v s2 d2) (by kernel_rfl) (by have h := HT0.out; exact ⟨h.r7, h.r9, h.r4, h.r5, h.i1, h.i2, h.bel.drew, h.n7, h.n9⟩) (fun hHeld => ?_)
  refine wpAnyH_take (i := 0) rfl (by kernel_rfl) (by kernel_rfl) (by kernel_rfl) (fun _ _ _ h => h) (yieldsIf_load44 (by rfl) (.tmp 7) rfl w1.heap.size rfl N1 u s1 (fun _ h => h.r7)) hHeld ?_
  try simp only [Act.put, List.getElem_toArray, List.getElem_cons_succ, List.getElem_cons_zero, List.setIfInBounds_toArray, List.set_cons_zero, List.set_cons_succ]
  refine wpAnyH_take (i := 1) rfl (by kernel_rfl) (by kernel_rfl) (by kernel_rfl) (fun _ _ _ h => h) (yieldsIf_load44 (by rfl) (.tmp 9) rfl w3.heap.size rfl N2 v s2 (fun _ h => h.r9)) hHeld ?_
  try simp only [Act.put, List.getElem_toArray, List.getElem_cons_succ, List.getElem_cons_zero, List.setIfInBounds_toArray, List.set_cons_zero, List.set_cons_succ]
  refine wpAnyH_take (i := 2) (v := .bool true) rfl (by kernel_rfl) (by kernel_rfl) (by kernel_rfl) (fun _ _ _ h => h) (Or.inl ⟨by rfl, fun W _ => by go_simp⟩) hHeld ?_
  try simp only [Act.put, List.getElem_toArray, List.getElem_cons_succ, List.getElem_cons_zero, List.setIfInBounds_toArray, List.set_cons_zero, List.set_cons_succ]
  refine wpAnyH_take (i := 3) (v := .bool true) rfl (by kernel_rfl) (by kernel_rfl) (by kernel_rfl) (fun _ _ _ h => h) (Or.inl ⟨by rfl, fun W _ => by go_simp⟩) hHeld ?_
  try simp only [Act.put, List.getElem_toArray, List.getElem_cons_succ, List.getElem_cons_zero, List.setIfInBounds_toArray, List.set_cons_zero, List.set_cons_succ]
  refine wpAnyH_take (i := 4) (v := .bool true) rfl (by kernel_rfl) (by kernel_rfl) (by kernel_rfl) (fun _ _ _ h => h) (Or.inl ⟨by rfl, fun W _ => by go_simp⟩) hHeld ?_
  try simp only [Act.put, List.getElem_toArray, List.getElem_cons_succ, List.getElem_cons_zero, List.setIfInBounds_toArray, List.set_cons_zero, List.set_cons_succ]
  refine wpAnyH_take (i := 5) (v := .bool true) rfl (by kernel_rfl) (by kernel_rfl) (by kernel_rfl) (fun _ _ _ h => h) (Or.inl ⟨by rfl, fun W _ => by go_simp⟩) hHeld ?_
  try simp only [Act.put, List.getElem_toArray, List.getElem_cons_succ, List.getElem_cons_zero, List.setIfInBounds_toArray, List.set_cons_zero, List.set_cons_succ]
  refine wpAnyH_take (i := 6) (v := .bool true) rfl (by kernel_rfl) (by kernel_rfl) (by kernel_rfl) (fun _ _ _ h => h) (Or.inl ⟨by rfl, fun W _ => by go_simp⟩) hHeld ?_
  try simp only [Act.put, List.getElem_toArray, List.getElem_cons_succ, List.getElem_cons_zero, List.setIfInBounds_toArray, List.set_cons_zero, List.set_cons_succ]
  refine wpAnyH_take (i := 7) (v := .string s) rfl (by kernel_rfl) (by kernel_rfl) (by kernel_rfl) (fun _ _ _ h => h) (Or.inl ⟨by rfl, fun W _ => by go_simp⟩) hHeld ?_
  try simp only [Act.put, List.getElem_toArray, List.getElem_cons_succ, List.getElem_cons_zero, List.setIfInBounds_toArray, List.set_cons_zero, List.set_cons_succ]
  refine wpAnyH_ready (rs := [8]) (by kernel_rfl) (by simp) ?_
  refine AllReadyH.cons rfl (fun K hK => ?_) AllReadyH.nil
  go_simp
  refine (C1.out.at _).mono ?_
  rintro e wc8 ⟨rfl, hbc⟩
  refine hK.out _ _ (hHeld.below hbc) (fun hHeld2 => ?_)
  clear hK K hbc hHeld
  have hHeld := hHeld2
  clear hHeld2
  try simp only [Act.put, List.getElem_toArray, List.getElem_cons_succ, List.getElem_cons_zero, List.setIfInBounds_toArray, List.set_cons_zero, List.set_cons_succ]
  refine wpAnyH_take (i := 9) (v := .bool false) rfl (by kernel_rfl) (by kernel_rfl) (by kernel_rfl) (fun _ _ _ h => h) (Or.inl ⟨by rfl, fun W _ => by go_simp⟩) hHeld ?_
  try simp only [Act.put, List.getElem_toArray, List.getElem_cons_succ, List.getElem_cons_zero, List.setIfInBounds_toArray, List.set_cons_zero, List.set_cons_succ]
  refine wpAnyH_take (i := 10) (v := .bool false) rfl (by kernel_rfl) (by kernel_rfl) (by kernel_rfl) (fun _ _ _ h => h) (Or.inl ⟨by rfl, fun W _ => by go_simp⟩) hHeld ?_
  try simp only [Act.put, List.getElem_toArray, List.getElem_cons_succ, List.getElem_cons_zero, List.setIfInBounds_toArray, List.set_cons_zero, List.set_cons_succ]
  refine wpAnyH_take (i := 11) (v := undef) rfl (by kernel_rfl) (by kernel_rfl) (by kernel_rfl) (fun _ _ _ h => h) (Or.inr ⟨by rfl, rfl⟩) hHeld ?_
  try simp only [Act.put, List.getElem_toArray, List.getElem_cons_succ, List.getElem_cons_zero, List.setIfInBounds_toArray, List.set_cons_zero, List.set_cons_succ]
  refine wpAnyH_take (i := 12) (v := undef) rfl (by kernel_rfl) (by kernel_rfl) (by kernel_rfl) (fun _ _ _ h => h) (Or.inr ⟨by rfl, rfl⟩) hHeld ?_
  try simp only [Act.put, List.getElem_toArray, List.getElem_cons_succ, List.getElem_cons_zero, List.setIfInBounds_toArray, List.set_cons_zero, List.set_cons_succ]
  refine wpAnyH_take (i := 13) (v := .bool false) rfl (by kernel_rfl) (by kernel_rfl) (by kernel_rfl) (fun _ _ _ h => h) (Or.inl ⟨by rfl, fun W _ => by go_simp⟩) hHeld ?_
  try simp only [Act.put, List.getElem_toArray, List.getElem_cons_succ, List.getElem_cons_zero, List.setIfInBounds_toArray, List.set_cons_zero, List.set_cons_succ]
  obtain ⟨n4, z4, k4, e4⟩ := hHeld.r4
  have one1 := HO.out
  have one2 := HO2.out
  refine wpAnyH_ready (rs := [14]) (by kernel_rfl) (by simp) ?_
  refine AllReadyH.cons rfl (fun K hK => ?_) AllReadyH.nil
  rw [if_pos (by rfl)]
  refine wp_store44 (.tmp 4) (.tmp 21) rfl w.heap.size rfl rfl e4 one1 (fun w5 ho5 x4 => ?_)
  refine hK.out _ _ (hHeld.set4 ho5 x4) (fun hHeld2 => ?_)
  clear hK K ho5 e4 hHeld
  have hHeld := hHeld2
  clear hHeld2
  try simp only [Act.put, List.getElem_toArray, List.getElem_cons_succ, List.getElem_cons_zero, List.setIfInBounds_toArray, List.set_cons_zero, List.set_cons_succ]
  obtain ⟨n5, z5, k5, e5⟩ := hHeld.r5
  refine wpAnyH_ready (rs := [15]) (by kernel_rfl) (by simp) ?_
  refine AllReadyH.cons rfl (fun K hK => ?_) AllReadyH.nil
  rw [if_pos (by rfl)]
  refine wp_store44 (.tmp 5) (.tmp 22) rfl (w.heap.size + 1) rfl rfl e5 one2 (fun w6 ho6 x5 => ?_)
  have y4 := x4.only ho6 (by omega)
  refine hK.out _ _ (hHeld.set5 ho6 x5) (fun hHeld2 => ?_)
  clear hK K ho6 e5 hHeld
  have hHeld := hHeld2
  clear hHeld2
  try simp only [Act.put, List.getElem_toArray, List.getElem_cons_succ, List.getElem_cons_zero, List.setIfInBounds_toArray, List.set_cons_zero, List.set_cons_succ]
  refine wpAnyH_ready (rs := [16]) (by kernel_rfl) (by simp) ?_
  refine AllReadyH.cons rfl (fun K hK => ?_) AllReadyH.nil
  go_simp
  refine hK.out _ _ hHeld (fun hHeld2 => ?_)
  have HF := Lib.hid hHeld
  clear hK K hHeld2 hHeld
  try simp only [Act.put, List.getElem_toArray, List.getElem_cons_succ, List.getElem_cons_zero, List.setIfInBounds_toArray, List.set_cons_zero, List.set_cons_succ]
  refine wpAnyH_done (by kernel_rfl) ?_ _
  go_wp2_with fail
  exact bodyPost_ret (v := .tuple #[.agg #[.bool N1, u, .int .i64 s1], .agg #[.bool N2, v, .int .i64 s2], .bool false]) (results442 (p := 4) (p2 := 5) (q := 6) Tryz.results25 _ (.bool false) rfl rfl rfl y4 x5) rfl ⟨u, v, rfl, HF.out.i1, HF.out.i2, HF.out.bel⟩
end Go.Proofs.YtdnijfkiebpnpaaGreatDoor
