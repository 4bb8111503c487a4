/- Texts of one kind, one behind the other: each says ahead of itself what it shows. -/
import Derived.Test.YtoifjjgakblhhaaGreatDoorHbd
import Derived.Test.YtoifjjgakblhhaaGreatDoorHap
import Derived.Test.YtoifjjgakblhhaaGreatDoorHat
import Derived.Deep.LoopGhost
import Derived.Laws.BitsAllLaws
import Derived.Laws.BytesArg
import Derived.Test.YtoifjjgakblhhaaGreatDoorHas
import Derived.Test.YtoifjjgakblhhaaGreatDoorHak
import Derived.Test.YtoifjjgakblhhaaGreatDoorHaq
/- What Arith tells, by the document: two decimals. -/
namespace Go.Proofs.YtoifjjgakblhhaaGreatDoor
open Go.RowKit

set_option maxRecDepth 20000 in
set_option maxHeartbeats 12800000 in
theorem rfDec20 (lang : Int) (k : Int) (b : Bool) (n : Int) (t x : ByteArray) (q : List Val) (p : Option Addr) (cap : Nat) (k2 : Int) (b2 : Bool) (n2 : Int) (t2 x2 : ByteArray) (q2 : List Val) (p2 : Option Addr) (cap2 : Nat) (w : World) (k9 n9 : Int) (t9 : ByteArray) (e9 : Int) (m1 m2 : Bool) (hc1 : ∀ W, Below w.heap.size w W → Calls Tryz.prog 14 #[.agg #[.int .i64 k, .bool b, .int .i64 n, .string t, .string x, .slice p q.length cap]] W fun e w' => e = .returned (.bool m1) ∧ Below W.heap.size W w') (hc2 : ∀ W, Below w.heap.size w W → Calls Tryz.prog 14 #[.agg #[.int .i64 k2, .bool b2, .int .i64 n2, .string t2, .string x2, .slice p2 q2.length cap2]] W fun e w' => e = .returned (.bool m2) ∧ Below W.heap.size W w') (e1 : m1 = true) (e2 : m2 = true) (ez1 : (k == 0) = false) (ez2 : (k2 == 0) = false) (jl kk a2 c2 : Bool) (el : (lang != 1) = jl) (ek : (k == k2) = kk) (y4 : (k == 4) = false) (y5 : (k == 5) = false) (u1 : (k == 2 || k == 3) = true) (u2 : (k2 == 2 || k2 == 3) = true) (v1 : (k == 2) = a2) (v2 : (k2 == 2) = c2) (hh : (a2 && c2) = false) (s s2 X : ByteArray) (c : Int) (ha : ∀ W, Below w.heap.size w W → Calls Tryz.prog 48 #[.agg #[.int .i64 k, .bool b, .int .i64 n, .string t, .string x, .slice p q.length cap]] W fun e w' => e = .returned (.string s) ∧ Below W.heap.size W w') (hb : ∀ W, Below w.heap.size w W → Calls Tryz.prog 48 #[.agg #[.int .i64 k2, .bool b2, .int .i64 n2, .string t2, .string x2, .slice p2 q2.length cap2]] W fun e w' => e = .returned (.string s2) ∧ Below W.heap.size W w') (hc : ∀ W, Below w.heap.size w W → Calls Tryz.prog 66 #[.string s, .string s2] W fun e w' => e = .returned (.tuple #[.string X, .int .i64 c]) ∧ Below W.heap.size W w') (hd : ∀ W, Below w.heap.size w W → Calls Tryz.prog 62 #[.string X, .int .i64 c] W (RPost W k9 n9 t9 e9)) :
    Calls Tryz.prog 26 #[.int .i64 lang, .int .i64 20, .agg #[.int .i64 k, .bool b, .int .i64 n, .string t, .string x, .slice p q.length cap], .agg #[.int .i64 k2, .bool b2, .int .i64 n2, .string t2, .string x2, .slice p2 q2.length cap2]] w (APost w k9 n9 t9 [] e9) := by
  obtain ⟨W0, hW0⟩ : ∃ W0, W0 = ((w.alloc (.cells #[.int .i64 k, .bool b, .int .i64 n, .string t, .string x, .slice p q.length cap] 28)).alloc (.cells #[.int .i64 k2, .bool b2, .int .i64 n2, .string t2, .string x2, .slice p2 q2.length cap2] 28)).alloc (.cells #[.int .i64 0, .bool false, .int .i64 0, .string ⟨#[]⟩, .string ⟨#[]⟩, .slice none 0 0] 28) := ⟨_, rfl⟩
  have S4 : Six W0 w.heap.size k b n t x p q.length cap := by rw [hW0]; exact ((six_new _ rfl).alloc _).alloc _
  have S5 : Six W0 (w.heap.size + 1) k2 b2 n2 t2 x2 p2 q2.length cap2 := by rw [hW0]; exact (six_new _ (by simp)).alloc _
  have S8 : Six W0 (w.heap.size + 2) 0 false 0 ⟨#[]⟩ ⟨#[]⟩ none 0 0 := by rw [hW0]; exact six_new _ (by simp)
  have b0 : Below w.heap.size w W0 := by rw [hW0]; exact below3 _ _ _ _
  have f0 := S4.c0
  have g0 := S5.c0
  have f2 := S4.c2
  have g2 := S5.c2
  have f3 := S4.c3
  have g3 := S5.c3
  have f5 := S4.c5
  have g5 := S5.c5
  have H0 := Lib.hid hW0
  clear hW0
  have hn1 := fun W => refNumberAt k b n t x p q.length cap W
  have hn2 := fun W => refNumberAt k2 b2 n2 t2 x2 p2 q2.length cap2 W
  unfold RPost at hd
  rw [u1] at hn1
  rw [u2] at hn2
  clear u1 u2
  subst e1 e2
  have hA := Lib.hid ha
  have hB := Lib.hid hb
  have hC := Lib.hid hc
  have hD := Lib.hid hd
  clear ha hb hc hd
  have hns : a2 = false ∨ (a2 = true ∧ c2 = false) := by cases a2 <;> cases c2 <;> simp at hh ⊢
  clear hh
  rcases hns with rfl | ⟨rfl, rfl⟩
  all_goals
    cases jl
    all_goals
      go_enter Tryz.func26, Tryz.ntmps26
      go_wp2_with (first
        | ((try rw [← H0.out]); (with_reducible refine wpList_load6 (.tmp 6) w.heap.size S4 ?_ ?_ ?_ ?_); rfl; rfl; rfl)
        | ((try rw [← H0.out]); (with_reducible refine wpList_load6g (.tmp 6) w.heap.size S4 ?_ ?_ ?_ ?_); rfl; rfl; rfl)
        | ((try rw [← H0.out]); (with_reducible refine wpList_load6 (.tmp 7) (w.heap.size + 1) S5 ?_ ?_ ?_ ?_); rfl; rfl; rfl)
        | ((try rw [← H0.out]); (with_reducible refine wpList_load6g (.tmp 7) (w.heap.size + 1) S5 ?_ ?_ ?_ ?_); rfl; rfl; rfl)
        | (go_at_call 14; (try rw [← H0.out]); (with_reducible refine (hc1 _ b0).mono ?_); rintro e w' ⟨rfl, hb⟩; replace S4 := S4.below hb; replace S5 := S5.below hb; replace S8 := S8.below hb; replace b0 := below_any b0 hb b0.size; have f0 := S4.c0; have g0 := S5.c0; have f2 := S4.c2; have g2 := S5.c2; have f3 := S4.c3; have g3 := S5.c3; have f5 := S4.c5; have g5 := S5.c5; clear hb)
        | (go_at_call 14; (try rw [← H0.out]); (with_reducible refine (hc2 _ b0).mono ?_); rintro e w' ⟨rfl, hb⟩; replace S4 := S4.below hb; replace S5 := S5.below hb; replace S8 := S8.below hb; replace b0 := below_any b0 hb b0.size; have f0 := S4.c0; have g0 := S5.c0; have f2 := S4.c2; have g2 := S5.c2; have f3 := S4.c3; have g3 := S5.c3; have f5 := S4.c5; have g5 := S5.c5; clear hb)
        | (go_at_call 45; (try rw [← H0.out]); (with_reducible refine (hn1 _).mono ?_); rintro e w' ⟨rfl, hb⟩; replace S4 := S4.below hb; replace S5 := S5.below hb; replace S8 := S8.below hb; replace b0 := below_any b0 hb b0.size; have f0 := S4.c0; have g0 := S5.c0; have f2 := S4.c2; have g2 := S5.c2; have f3 := S4.c3; have g3 := S5.c3; have f5 := S4.c5; have g5 := S5.c5; clear hb)
        | (go_at_call 45; (try rw [← H0.out]); (with_reducible refine (hn2 _).mono ?_); rintro e w' ⟨rfl, hb⟩; replace S4 := S4.below hb; replace S5 := S5.below hb; replace S8 := S8.below hb; replace b0 := below_any b0 hb b0.size; have f0 := S4.c0; have g0 := S5.c0; have f2 := S4.c2; have g2 := S5.c2; have f3 := S4.c3; have g3 := S5.c3; have f5 := S4.c5; have g5 := S5.c5; clear hb))
      refine wp_region_held_drew (S := fun w' => Six w' w.heap.size k b n t x p q.length cap ∧ Six w' (w.heap.size + 1) k2 b2 n2 t2 x2 p2 q2.length cap2 ∧ ∃ k8 b8 n8 t8 x8 p8 l8 m8, Six w' (w.heap.size + 2) k8 b8 n8 t8 x8 p8 l8 m8) (by kernel_rfl) ⟨S4, S5, _, _, _, _, _, _, _, _, S8⟩ (fun hHeld => ?_)
      replace b0 := b0.drew
      clear S4 S5 S8
      obtain ⟨S4, S5, k8, b8, n8, t8, x8, p8, l8, m8, S8⟩ := hHeld
      refine wpAnyH_take (i := 0) rfl (by kernel_rfl) (by kernel_rfl) (by kernel_rfl) (fun _ _ _ h => h) (yields6 (by rfl) (.tmp 6) rfl w.heap.size rfl (fun _ h => h.1)) ⟨S4, S5, _, _, _, _, _, _, _, _, S8⟩ ?_
      try simp only [Act.put, List.getElem_toArray, List.getElem_cons_succ, List.getElem_cons_zero, List.setIfInBounds_toArray, List.set_cons_zero, List.set_cons_succ]
      refine wpAnyH_take (i := 2) rfl (by kernel_rfl) (by kernel_rfl) (by kernel_rfl) (fun _ _ _ h => h) (yields6 (by rfl) (.tmp 7) rfl (w.heap.size + 1) rfl (fun _ h => h.2.1)) ⟨S4, S5, _, _, _, _, _, _, _, _, S8⟩ ?_
      try simp only [Act.put, List.getElem_toArray, List.getElem_cons_succ, List.getElem_cons_zero, List.setIfInBounds_toArray, List.set_cons_zero, List.set_cons_succ]
      refine wpAnyH_ready (rs := [1]) (by kernel_rfl) (by simp) ?_
      refine AllReadyH.cons rfl (fun K hK => ?_) AllReadyH.nil
      rw [if_pos (by rfl)]
      go_simp
      refine (hA.out _ b0).mono ?_
      rintro e w3 ⟨rfl, hb⟩
      replace S4 := S4.below hb
      replace S5 := S5.below hb
      replace S8 := S8.below hb
      replace b0 := below_any b0 hb b0.size
      clear hb
      refine hK.out _ _ ⟨S4, S5, _, _, _, _, _, _, _, _, S8⟩ (fun _ => ?_)
      clear hK K
      try simp only [Act.put, List.getElem_toArray, List.getElem_cons_succ, List.getElem_cons_zero, List.setIfInBounds_toArray, List.set_cons_zero, List.set_cons_succ]
      refine wpAnyH_ready (rs := [3]) (by kernel_rfl) (by simp) ?_
      refine AllReadyH.cons rfl (fun K hK => ?_) AllReadyH.nil
      rw [if_pos (by rfl)]
      go_simp
      refine (hB.out _ b0).mono ?_
      rintro e w3 ⟨rfl, hb⟩
      replace S4 := S4.below hb
      replace S5 := S5.below hb
      replace S8 := S8.below hb
      replace b0 := below_any b0 hb b0.size
      clear hb
      refine hK.out _ _ ⟨S4, S5, _, _, _, _, _, _, _, _, S8⟩ (fun _ => ?_)
      clear hK K
      try simp only [Act.put, List.getElem_toArray, List.getElem_cons_succ, List.getElem_cons_zero, List.setIfInBounds_toArray, List.set_cons_zero, List.set_cons_succ]
      refine wpAnyH_ready (rs := [4]) (by kernel_rfl) (by simp) ?_
      refine AllReadyH.cons rfl (fun K hK => ?_) AllReadyH.nil
      rw [if_pos (by rfl)]
      go_simp
      refine (hC.out _ b0).mono ?_
      rintro e w3 ⟨rfl, hb⟩
      replace S4 := S4.below hb
      replace S5 := S5.below hb
      replace S8 := S8.below hb
      replace b0 := below_any b0 hb b0.size
      clear hb
      refine hK.out _ _ ⟨S4, S5, _, _, _, _, _, _, _, _, S8⟩ (fun _ => ?_)
      clear hK K
      try simp only [Act.put, List.getElem_toArray, List.getElem_cons_succ, List.getElem_cons_zero, List.setIfInBounds_toArray, List.set_cons_zero, List.set_cons_succ]
      refine wpAnyH_take (i := 5) (v := .string X) rfl (by kernel_rfl) (by kernel_rfl) (by kernel_rfl) (fun _ _ _ h => h) (Or.inl ⟨by rfl, fun W _ => by go_simp⟩) ⟨S4, S5, _, _, _, _, _, _, _, _, S8⟩ ?_
      try simp only [Act.put, List.getElem_toArray, List.getElem_cons_succ, List.getElem_cons_zero, List.setIfInBounds_toArray, List.set_cons_zero, List.set_cons_succ]
      refine wpAnyH_take (i := 6) (v := .int .i64 c) rfl (by kernel_rfl) (by kernel_rfl) (by kernel_rfl) (fun _ _ _ h => h) (Or.inl ⟨by rfl, fun W _ => by go_simp⟩) ⟨S4, S5, _, _, _, _, _, _, _, _, S8⟩ ?_
      try simp only [Act.put, List.getElem_toArray, List.getElem_cons_succ, List.getElem_cons_zero, List.setIfInBounds_toArray, List.set_cons_zero, List.set_cons_succ]
      refine wpAnyH_ready (rs := [7]) (by kernel_rfl) (by simp) ?_
      refine AllReadyH.cons rfl (fun K hK => ?_) AllReadyH.nil
      rw [if_pos (by rfl)]
      go_simp
      refine (hD.out _ b0).mono ?_
      rintro e w3 ⟨rfl, hb⟩
      replace S4 := S4.below hb
      replace S5 := S5.below hb
      replace S8 := S8.below hb
      replace b0 := below_any b0 hb b0.size
      clear hb
      refine hK.out _ _ ⟨S4, S5, _, _, _, _, _, _, _, _, S8⟩ (fun _ => ?_)
      clear hK K
      try simp only [Act.put, List.getElem_toArray, List.getElem_cons_succ, List.getElem_cons_zero, List.setIfInBounds_toArray, List.set_cons_zero, List.set_cons_succ]
      refine wpAnyH_take (i := 8) (v := .agg #[.int .i64 k9, .bool false, .int .i64 n9, .string t9, .string ⟨#[]⟩, .slice none 0 0]) rfl (by kernel_rfl) (by kernel_rfl) (by kernel_rfl) (fun _ _ _ h => h) (Or.inl ⟨by rfl, fun W _ => by go_simp⟩) ⟨S4, S5, _, _, _, _, _, _, _, _, S8⟩ ?_
      try simp only [Act.put, List.getElem_toArray, List.getElem_cons_succ, List.getElem_cons_zero, List.setIfInBounds_toArray, List.set_cons_zero, List.set_cons_succ]
      refine wpAnyH_take (i := 9) (v := .int .i64 e9) rfl (by kernel_rfl) (by kernel_rfl) (by kernel_rfl) (fun _ _ _ h => h) (Or.inl ⟨by rfl, fun W _ => by go_simp⟩) ⟨S4, S5, _, _, _, _, _, _, _, _, S8⟩ ?_
      try simp only [Act.put, List.getElem_toArray, List.getElem_cons_succ, List.getElem_cons_zero, List.setIfInBounds_toArray, List.set_cons_zero, List.set_cons_succ]
      have z3 := S8.lt
      have b3 := b0
      refine wpAnyH_ready (rs := [10]) (by kernel_rfl) (by simp) ?_
      refine AllReadyH.cons rfl (fun K hK => ?_) AllReadyH.nil
      try rw [if_pos (by rfl)]
      refine wp_store6 (k' := k9) (b' := false) (n' := n9) (t' := t9) (x' := ⟨#[]⟩) (p' := none) (len' := 0) (cap' := 0) (.tmp 8) (.tmp 176) rfl (w.heap.size + 2) S8 rfl rfl ?_
      intro w9 on9 S9
      replace S4 := S4.only on9 (by omega)
      replace S5 := S5.only on9 (by omega)
      replace S8 := S9
      refine hK.out _ _ ⟨S4, S5, _, _, _, _, _, _, _, _, S8⟩ (fun _ => ?_)
      clear hK K
      try simp only [Act.put, List.getElem_toArray, List.getElem_cons_succ, List.getElem_cons_zero, List.setIfInBounds_toArray, List.set_cons_zero, List.set_cons_succ]
      refine wpAnyH_ready (rs := [11]) (by kernel_rfl) (by simp) ?_
      refine AllReadyH.cons rfl (fun K hK => ?_) AllReadyH.nil
      try rw [if_pos (by rfl)]
      go_simp
      refine hK.out _ _ ⟨S4, S5, _, _, _, _, _, _, _, _, S8⟩ (fun _ => ?_)
      clear hK K
      try simp only [Act.put, List.getElem_toArray, List.getElem_cons_succ, List.getElem_cons_zero, List.setIfInBounds_toArray, List.set_cons_zero, List.set_cons_succ]
      refine wpAnyH_done (by kernel_rfl) ?_ _
      go_wp2_with fail
      exact bodyPost_ret (results_six_tmp (p := 8) (q := 9) Tryz.results26 _ (.int .i64 e9) rfl rfl S9) rfl ⟨none, 0, rfl, by unfold HeldT; exact ⟨none, 0, rfl⟩, below_only b3 on9 (by omega) b3.size⟩
end Go.Proofs.YtoifjjgakblhhaaGreatDoor

/- What the document's own reader makes of bytes: the pure half: where a value may be, both readers agree. -/
namespace Go.Proofs.YtoifjjgakblhhaaGreatDoor

/-- A text and what is left, however long. -/
def rzT (l : List UInt8) : Option (ByteArray × List UInt8) :=
  if 4 ≤ l.length ∧ numW (l.take 4) ≤ (l.drop 4).length then some (⟨((l.drop 4).take (numW (l.take 4))).toArray⟩, (l.drop 4).drop (numW (l.take 4))) else none
/-- What follows a kind, in the document's own reader. -/
def rzK (g : Option (List UInt8 → Option (Val × List UInt8))) (k : Nat) (r : List UInt8) : Option (Val × List UInt8) :=
  if k = 0 then some (.mk 0 false 0 E0 E0 [], r)
  else if k = 1 then (match r with
    | [] => none
    | b :: r' => if b.toNat ≤ 1 then some (.mk 1 (b.toNat == 1) 0 E0 E0 [], r') else none)
  else if k = 2 ∨ k = 6 ∨ k = 7 then (if 8 ≤ r.length then some (.mk k false (toI64 (numW (r.take 8))) E0 E0 [], r.drop 8) else none)
  else if k = 3 ∨ k = 4 ∨ k = 8 ∨ k = 9 then (match rzT r with
    | none => none
    | some (t, r') => some (.mk k false 0 t E0 [], r'))
  else if k = 10 then (match rzT r with
    | none => none
    | some (t, r') => match rzT r' with
      | none => none
      | some (x, r'') => some (.mk k false 0 t x [], r''))
  else if k = 5 then (match g with
    | none => none
    | some g => if 4 ≤ r.length ∧ numW (r.take 4) ≤ 4096 then (match rdL g (numW (r.take 4)) (r.drop 4) with
      | none => none
      | some (q, r') => some (.mk 5 false 0 E0 E0 q, r')) else none)
  else none
/-- A value and what is left, in the document's own reader. -/
def rzV : Nat → List UInt8 → Option (Val × List UInt8)
  | _, [] => none
  | 0, c :: r => rzK none c.toNat r
  | f + 1, c :: r => rzK (some (rzV f)) c.toNat r
theorem rzT_rdT (l : List UInt8) (hl : l.length ≤ 1048576) : rzT l = rdT l := by
  unfold rzT rdT
  by_cases h1 : 4 ≤ l.length ∧ numW (l.take 4) ≤ (l.drop 4).length
  · have h2 : (l.drop 4).length ≤ 1048576 := by rw [List.length_drop]; omega
    rw [if_pos h1, if_pos ⟨h1.1, by omega, h1.2⟩]
  · rw [if_neg h1, if_neg (fun h => h1 ⟨h.1, h.2.2⟩)]
theorem rdT_left (l : List UInt8) (t : ByteArray) (r : List UInt8) (h : rdT l = some (t, r)) : r.length ≤ l.length := by
  unfold rdT at h
  split at h
  · simp only [Option.some.injEq, Prod.mk.injEq] at h
    rw [← h.2, List.length_drop, List.length_drop]
    omega
  · cases h
theorem rdL_agree {d : Nat} {g h : List UInt8 → Option (Val × List UInt8)} (ha : ∀ l v r, l.length ≤ 1048576 → g l = some (v, r) → mayP v d = true → h l = some (v, r)) (hb : ∀ l v r, g l = some (v, r) → r.length ≤ l.length) :
    (n : Nat) → ∀ (l : List UInt8) (q : List Val) (r : List UInt8), l.length ≤ 1048576 → rdL g n l = some (q, r) → eachP q d = true → rdL h n l = some (q, r)
  | 0, l, q, r, _, e, _ => e
  | n + 1, l, q, r, hl, e, hm => by
    unfold rdL at e ⊢
    cases hv : g l with
    | none => rw [hv] at e; cases e
    | some p =>
      obtain ⟨v, l'⟩ := p
      rw [hv] at e
      simp only at e
      cases hq : rdL g n l' with
      | none => rw [hq] at e; cases e
      | some p2 =>
        obtain ⟨q', l''⟩ := p2
        rw [hq] at e
        simp only [Option.some.injEq, Prod.mk.injEq] at e
        obtain ⟨rfl, rfl⟩ := e
        unfold eachP at hm
        rw [Bool.and_eq_true] at hm
        rw [ha l v l' hl hv hm.1]
        simp only
        rw [rdL_agree ha hb n l' q' l'' (Nat.le_trans (hb l v l' hv) hl) hq hm.2]
theorem rdL_left {g : List UInt8 → Option (Val × List UInt8)} (hb : ∀ l v r, g l = some (v, r) → r.length ≤ l.length) : (n : Nat) → ∀ (l : List UInt8) (q : List Val) (r : List UInt8), rdL g n l = some (q, r) → r.length ≤ l.length
  | 0, l, q, r, e => by
    simp only [rdL, Option.some.injEq, Prod.mk.injEq] at e
    rw [← e.2]
    exact Nat.le_refl _
  | n + 1, l, q, r, e => by
    unfold rdL at e
    cases hv : g l with
    | none => rw [hv] at e; cases e
    | some p =>
      obtain ⟨v, l'⟩ := p
      rw [hv] at e
      simp only at e
      cases hq : rdL g n l' with
      | none => rw [hq] at e; cases e
      | some p2 =>
        obtain ⟨q', l''⟩ := p2
        rw [hq] at e
        simp only [Option.some.injEq, Prod.mk.injEq] at e
        rw [← e.2]
        exact Nat.le_trans (rdL_left hb n l' q' l'' hq) (hb l v l' hv)
end Go.Proofs.YtoifjjgakblhhaaGreatDoor

/- Both readers agree where the value may be. -/
namespace Go.Proofs.YtoifjjgakblhhaaGreatDoor

theorem may_list (q : List Val) (d : Nat) (h : mayP (.mk 5 false 0 E0 E0 q) d = true) : d + 1 ≤ 60 ∧ eachP q (d + 1) = true := by
  unfold mayP fitsP at h
  rw [if_neg (by decide), if_neg (by decide), if_neg (by decide), if_neg (by decide), if_neg (by decide), if_pos rfl] at h
  rw [Bool.and_eq_true, Bool.and_eq_true, Bool.and_eq_true] at h
  exact ⟨of_decide_eq_true h.1.1.2, h.1.2⟩
theorem may_kind (k : Int) (b : Bool) (n : Int) (t x : ByteArray) (q : List Val) (d : Nat) (h0 : ¬k = 0) (h1 : ¬k = 1) (h2 : ¬k = 2) (h3 : ¬k = 3) (h4 : ¬k = 4) (h5 : ¬k = 5) (h6 : ¬(k = 6 ∨ k = 7)) (h8 : ¬k = 8) (h9 : ¬k = 9) (h10 : ¬k = 10) : mayP (.mk k b n t x q) d = false := by
  unfold mayP fitsP
  rw [if_neg h0, if_neg h1, if_neg h2, if_neg h3, if_neg h4, if_neg h5, if_neg h6, if_neg h8, if_neg h9, if_neg h10]
theorem k_fwd (d : Nat) (g h : Option (List UInt8 → Option (Val × List UInt8))) (hgh : ∀ g', g = some g' → ∃ h', h = some h' ∧ (∀ l v r, l.length ≤ 1048576 → g' l = some (v, r) → mayP v (d + 1) = true → h' l = some (v, r)) ∧ (∀ l v r, g' l = some (v, r) → r.length ≤ l.length))
    (k : Nat) (r : List UInt8) (hr : r.length ≤ 1048576) (v : Val) (s : List UInt8) (e : rdK g k r = some (v, s)) (hm : mayP v d = true) : rzK h k r = some (v, s) := by
  unfold rzK
  by_cases h0 : k = 0
  · subst h0
    rw [if_pos rfl]
    exact e
  rw [if_neg h0]
  unfold rdK at e
  by_cases h1 : k = 1
  · rw [if_pos h1] at e ⊢
    exact e
  rw [if_neg h1] at e ⊢
  by_cases h2 : k = 2 ∨ k = 6 ∨ k = 7
  · rw [if_pos h2] at e ⊢
    exact e
  rw [if_neg h2] at e ⊢
  by_cases h3 : k = 3 ∨ k = 4 ∨ k = 8 ∨ k = 9
  · rw [if_pos h3] at e ⊢
    rw [rzT_rdT r hr]
    exact e
  rw [if_neg h3] at e ⊢
  by_cases h10 : k = 10
  · rw [if_pos h10] at e ⊢
    rw [rzT_rdT r hr]
    cases ht : rdT r with
    | none => rw [ht] at e; cases e
    | some p =>
      obtain ⟨t, r'⟩ := p
      rw [ht] at e
      simp only at e ⊢
      rw [rzT_rdT r' (Nat.le_trans (rdT_left r t r' ht) hr)]
      exact e
  rw [if_neg h10] at e ⊢
  by_cases h5 : k = 5
  · rw [if_pos h5] at e ⊢
    cases g with
    | none => cases e
    | some g' =>
      obtain ⟨h', rfl, ha, hb⟩ := hgh g' rfl
      simp only at e ⊢
      split at e
      · rename_i h4
        rw [if_pos h4]
        cases hq : rdL g' (numW (r.take 4)) (r.drop 4) with
        | none => rw [hq] at e; cases e
        | some p =>
          obtain ⟨q, r'⟩ := p
          rw [hq] at e
          simp only [Option.some.injEq, Prod.mk.injEq] at e
          obtain ⟨rfl, rfl⟩ := e
          rw [rdL_agree ha hb _ _ q r' (by rw [List.length_drop]; omega) hq (may_list q d hm).2]
      · cases e
  rw [if_neg h5] at e ⊢
  simp only [Option.some.injEq, Prod.mk.injEq] at e
  obtain ⟨rfl, rfl⟩ := e
  rw [may_kind _ _ _ _ _ _ _ (by omega) (by omega) (by omega) (by omega) (by omega) (by omega) (by omega) (by omega) (by omega) (by omega)] at hm
  cases hm
theorem k_bwd (d : Nat) (g h : Option (List UInt8 → Option (Val × List UInt8))) (hgh : ∀ h', h = some h' → d + 1 ≤ 60 → ∃ g', g = some g' ∧ (∀ l v r, l.length ≤ 1048576 → h' l = some (v, r) → mayP v (d + 1) = true → g' l = some (v, r)) ∧ (∀ l v r, h' l = some (v, r) → r.length ≤ l.length))
    (k : Nat) (r : List UInt8) (hr : r.length ≤ 1048576) (v : Val) (s : List UInt8) (e : rzK h k r = some (v, s)) (hm : mayP v d = true) : rdK g k r = some (v, s) := by
  unfold rzK at e
  by_cases h0 : k = 0
  · subst h0
    rw [if_pos rfl] at e
    exact e
  rw [if_neg h0] at e
  unfold rdK
  by_cases h1 : k = 1
  · rw [if_pos h1] at e ⊢
    exact e
  rw [if_neg h1] at e ⊢
  by_cases h2 : k = 2 ∨ k = 6 ∨ k = 7
  · rw [if_pos h2] at e ⊢
    exact e
  rw [if_neg h2] at e ⊢
  by_cases h3 : k = 3 ∨ k = 4 ∨ k = 8 ∨ k = 9
  · rw [if_pos h3] at e ⊢
    rw [rzT_rdT r hr] at e
    exact e
  rw [if_neg h3] at e ⊢
  by_cases h10 : k = 10
  · rw [if_pos h10] at e ⊢
    rw [rzT_rdT r hr] at e
    cases ht : rdT r with
    | none => rw [ht] at e; cases e
    | some p =>
      obtain ⟨t, r'⟩ := p
      rw [ht] at e
      simp only at e ⊢
      rw [rzT_rdT r' (Nat.le_trans (rdT_left r t r' ht) hr)] at e
      exact e
  rw [if_neg h10] at e ⊢
  by_cases h5 : k = 5
  · rw [if_pos h5] at e ⊢
    cases h with
    | none => cases e
    | some h' =>
      simp only at e
      split at e
      · rename_i h4
        cases hq : rdL h' (numW (r.take 4)) (r.drop 4) with
        | none => rw [hq] at e; cases e
        | some p =>
          obtain ⟨q, r'⟩ := p
          rw [hq] at e
          simp only [Option.some.injEq, Prod.mk.injEq] at e
          obtain ⟨rfl, rfl⟩ := e
          obtain ⟨hd, he⟩ := may_list q d hm
          obtain ⟨g', rfl, ha, hb⟩ := hgh h' rfl hd
          simp only
          rw [if_pos h4, rdL_agree ha hb _ _ q r' (by rw [List.length_drop]; omega) hq he]
      · cases e
  rw [if_neg h5] at e
  cases e
theorem k_left (g : Option (List UInt8 → Option (Val × List UInt8))) (hb : ∀ g', g = some g' → ∀ l v r, g' l = some (v, r) → r.length ≤ l.length) (k : Nat) (r : List UInt8) (v : Val) (s : List UInt8) (e : rdK g k r = some (v, s)) : s.length ≤ r.length := by
  unfold rdK at e
  split at e
  · cases r with
    | nil => cases e
    | cons b r' =>
      simp only at e
      split at e
      · simp only [Option.some.injEq, Prod.mk.injEq] at e
        rw [← e.2]; simp
      · cases e
  split at e
  · split at e
    · simp only [Option.some.injEq, Prod.mk.injEq] at e
      rw [← e.2, List.length_drop]; omega
    · cases e
  split at e
  · cases ht : rdT r with
    | none => rw [ht] at e; cases e
    | some p =>
      obtain ⟨t, r'⟩ := p
      rw [ht] at e
      simp only [Option.some.injEq, Prod.mk.injEq] at e
      rw [← e.2]
      exact rdT_left r t r' ht
  split at e
  · cases ht : rdT r with
    | none => rw [ht] at e; cases e
    | some p =>
      obtain ⟨t, r'⟩ := p
      rw [ht] at e
      simp only at e
      cases hx : rdT r' with
      | none => rw [hx] at e; cases e
      | some p2 =>
        obtain ⟨x, r''⟩ := p2
        rw [hx] at e
        simp only [Option.some.injEq, Prod.mk.injEq] at e
        rw [← e.2]
        exact Nat.le_trans (rdT_left r' x r'' hx) (rdT_left r t r' ht)
  split at e
  · cases g with
    | none => cases e
    | some g' =>
      simp only at e
      split at e
      · cases hq : rdL g' (numW (r.take 4)) (r.drop 4) with
        | none => rw [hq] at e; cases e
        | some p =>
          obtain ⟨q, r'⟩ := p
          rw [hq] at e
          simp only [Option.some.injEq, Prod.mk.injEq] at e
          rw [← e.2]
          have := rdL_left (hb g' rfl) _ _ q r' hq
          rw [List.length_drop] at this
          omega
      · cases e
  · simp only [Option.some.injEq, Prod.mk.injEq] at e
    rw [← e.2]
    exact Nat.le_refl _
theorem rzT_left (l : List UInt8) (t : ByteArray) (r : List UInt8) (h : rzT l = some (t, r)) : r.length ≤ l.length := by
  unfold rzT at h
  split at h
  · simp only [Option.some.injEq, Prod.mk.injEq] at h
    rw [← h.2, List.length_drop, List.length_drop]
    omega
  · cases h
theorem kz_left (g : Option (List UInt8 → Option (Val × List UInt8))) (hb : ∀ g', g = some g' → ∀ l v r, g' l = some (v, r) → r.length ≤ l.length) (k : Nat) (r : List UInt8) (v : Val) (s : List UInt8) (e : rzK g k r = some (v, s)) : s.length ≤ r.length := by
  unfold rzK at e
  split at e
  · simp only [Option.some.injEq, Prod.mk.injEq] at e
    rw [← e.2]
    exact Nat.le_refl _
  split at e
  · cases r with
    | nil => cases e
    | cons b r' =>
      simp only at e
      split at e
      · simp only [Option.some.injEq, Prod.mk.injEq] at e
        rw [← e.2]; simp
      · cases e
  split at e
  · split at e
    · simp only [Option.some.injEq, Prod.mk.injEq] at e
      rw [← e.2, List.length_drop]; omega
    · cases e
  split at e
  · cases ht : rzT r with
    | none => rw [ht] at e; cases e
    | some p =>
      obtain ⟨t, r'⟩ := p
      rw [ht] at e
      simp only [Option.some.injEq, Prod.mk.injEq] at e
      rw [← e.2]
      exact rzT_left r t r' ht
  split at e
  · cases ht : rzT r with
    | none => rw [ht] at e; cases e
    | some p =>
      obtain ⟨t, r'⟩ := p
      rw [ht] at e
      simp only at e
      cases hx : rzT r' with
      | none => rw [hx] at e; cases e
      | some p2 =>
        obtain ⟨x, r''⟩ := p2
        rw [hx] at e
        simp only [Option.some.injEq, Prod.mk.injEq] at e
        rw [← e.2]
        exact Nat.le_trans (rzT_left r' x r'' hx) (rzT_left r t r' ht)
  split at e
  · cases g with
    | none => cases e
    | some g' =>
      simp only at e
      split at e
      · cases hq : rdL g' (numW (r.take 4)) (r.drop 4) with
        | none => rw [hq] at e; cases e
        | some p =>
          obtain ⟨q, r'⟩ := p
          rw [hq] at e
          simp only [Option.some.injEq, Prod.mk.injEq] at e
          rw [← e.2]
          have := rdL_left (hb g' rfl) _ _ q r' hq
          rw [List.length_drop] at this
          omega
      · cases e
  · cases e
theorem rdV_left : (f : Nat) → ∀ l v r, rdV f l = some (v, r) → r.length ≤ l.length
  | 0, l, v, r, e => by
    cases l with
    | nil => cases e
    | cons c s =>
      have := k_left none (fun _ h => by cases h) c.toNat s v r e
      simp only [List.length_cons]
      omega
  | f + 1, l, v, r, e => by
    cases l with
    | nil => cases e
    | cons c s =>
      have := k_left (some (rdV f)) (fun g h => by cases h; exact rdV_left f) c.toNat s v r e
      simp only [List.length_cons]
      omega
theorem rzV_left : (f : Nat) → ∀ l v r, rzV f l = some (v, r) → r.length ≤ l.length
  | 0, l, v, r, e => by
    cases l with
    | nil => cases e
    | cons c s =>
      have := kz_left none (fun _ h => by cases h) c.toNat s v r e
      simp only [List.length_cons]
      omega
  | f + 1, l, v, r, e => by
    cases l with
    | nil => cases e
    | cons c s =>
      have := kz_left (some (rzV f)) (fun g h => by cases h; exact rzV_left f) c.toNat s v r e
      simp only [List.length_cons]
      omega
theorem agree : (f d : Nat) → d + f = 60 → (∀ l v r, l.length ≤ 1048576 → rdV f l = some (v, r) → mayP v d = true → rzV (f + 1) l = some (v, r)) ∧ (∀ l v r, l.length ≤ 1048576 → rzV (f + 1) l = some (v, r) → mayP v d = true → rdV f l = some (v, r))
  | 0, d, hd => by
    refine ⟨fun l v r hl e hm => ?_, fun l v r hl e hm => ?_⟩
    · cases l with
      | nil => cases e
      | cons c s =>
        simp only [List.length_cons] at hl
        exact k_fwd d none (some (rzV 0)) (fun g h => by cases h) c.toNat s (by omega) v r e hm
    · cases l with
      | nil => cases e
      | cons c s =>
        simp only [List.length_cons] at hl
        exact k_bwd d none (some (rzV 0)) (fun h' _ hd2 => by omega) c.toNat s (by omega) v r e hm
  | f + 1, d, hd => by
    obtain ⟨i1, i2⟩ := agree f (d + 1) (by omega)
    refine ⟨fun l v r hl e hm => ?_, fun l v r hl e hm => ?_⟩
    · cases l with
      | nil => cases e
      | cons c s =>
        simp only [List.length_cons] at hl
        exact k_fwd d (some (rdV f)) (some (rzV (f + 1))) (fun g h => by cases h; exact ⟨_, rfl, i1, rdV_left f⟩) c.toNat s (by omega) v r e hm
    · cases l with
      | nil => cases e
      | cons c s =>
        simp only [List.length_cons] at hl
        exact k_bwd d (some (rdV f)) (some (rzV (f + 1))) (fun h' hh _ => by cases hh; exact ⟨_, rfl, i2, rzV_left (f + 1)⟩) c.toNat s (by omega) v r e hm
end Go.Proofs.YtoifjjgakblhhaaGreatDoor

/- The reader: take, int, count, text. -/
namespace Go.Proofs.YtoifjjgakblhhaaGreatDoor
open Go.RowKit

/-- The reader's block, and the bytes that are left. -/
def Rd (w : World) (R : Nat) (l : List UInt8) : Prop := ∃ p cap, w.heap[R]? = some (.cells #[.slice p l.length cap] 71) ∧ l.length ≤ cap ∧ cap ≤ maxLen ∧
  ((p = none ∧ l = []) ∨ ∃ g off, p = some ⟨g, off, none⟩ ∧ g ≠ R ∧ (∃ cs : Array Value, w.heap[g]? = some (Obj.cells cs 5)) ∧ ∀ j c, l[j]? = some c → w.cell? ⟨g, off + j, none⟩ = some (.int .u8 c.toNat))
theorem Rd.lt {w : World} {R : Nat} {l : List UInt8} (h : Rd w R l) : R < w.heap.size := by
  obtain ⟨p, cap, h, _⟩ := h
  exact lt_of_heap h
theorem Rd.below {w w' : World} {R : Nat} {l : List UInt8} (h : Rd w R l) (b : Below w.heap.size w w') : Rd w' R l := by
  obtain ⟨p, cap, h1, h2, h3, h4⟩ := h
  refine ⟨p, cap, (b.block R (lt_of_heap h1)).trans h1, h2, h3, ?_⟩
  rcases h4 with h4 | ⟨g, off, e, hne, ⟨cs, hcs⟩, hc⟩
  · exact .inl h4
  · exact .inr ⟨g, off, e, hne, ⟨cs, (b.block g (lt_of_heap hcs)).trans hcs⟩, fun j c hj => (b.cell (p := ⟨g, off + j, none⟩) (World.block_lt_of_cell? w _ (hc j c hj))).trans (hc j c hj)⟩
theorem Bts.only {w w' : World} {R : Nat} {A : Value} {l : List UInt8} (h : Bts w A l) (o : Only R w w') (hne : ∀ g, A.ownBlock = some g → g ≠ R) : Bts w' A l := by
  obtain ⟨p, cap, rfl, h⟩ := h
  refine ⟨p, cap, rfl, ?_⟩
  rcases h with h | ⟨g, off, rfl, h⟩
  · exact .inl h
  · exact .inr ⟨g, off, rfl, fun j c hj => (World.cell?_of_block (w := w) (a := ⟨g, off + j, none⟩) (o.block g (World.block_lt_of_cell? w _ (h j c hj)) (hne g rfl))).trans (h j c hj)⟩

end Go.Proofs.YtoifjjgakblhhaaGreatDoor

/- The reader: int, count, text. -/
namespace Go.Proofs.YtoifjjgakblhhaaGreatDoor
open Go.RowKit

end Go.Proofs.YtoifjjgakblhhaaGreatDoor

/- The reader: a value, kind by kind. -/
namespace Go.Proofs.YtoifjjgakblhhaaGreatDoor
open Go.RowKit

theorem Six.set0 {w : World} {g : Nat} {k : Int} {b : Bool} {n : Int} {t x : ByteArray} {p : Option Addr} {len cap : Nat} (h : Six w g k b n t x p len cap) (v : Int) : Six (w.setCell ⟨g, 0, none⟩ (.int .i64 v)) g v b n t x p len cap := heap_set h 0 (.int .i64 v)
theorem Only.new {R B : Nat} {w y z : World} (h : Only R w y) (k : Only B y z) (hB : w.heap.size ≤ B) : Only R w z :=
  ⟨k.os.trans h.os, k.tape.trans h.tape, k.output.trans h.output, Nat.le_trans h.size k.size, fun i hi e => (k.block i (Nat.lt_of_lt_of_le hi h.size) (by omega)).trans (h.block i hi e)⟩
/-- A value's box was written: the reader is as it was. -/
theorem Rd.six {w w' : World} {R B : Nat} {l : List UInt8} {k : Int} {b : Bool} {n : Int} {t x : ByteArray} {p : Option Addr} {len cap : Nat} (h : Rd w R l) (S : Six w B k b n t x p len cap) (o : Only B w w') (hne : B ≠ R) : Rd w' R l := by
  obtain ⟨p1, cap1, h1, h2, h3, h4⟩ := h
  refine ⟨p1, cap1, (o.block R (lt_of_heap h1) (fun e => hne e.symm)).trans h1, h2, h3, ?_⟩
  rcases h4 with h4 | ⟨g, off, e, hg, ⟨cs, hcs⟩, hc⟩
  · exact .inl h4
  · have hgB : g ≠ B := fun e2 => by
      subst e2
      have h6 : w.heap[g]? = some (.cells #[.int .i64 k, .bool b, .int .i64 n, .string t, .string x, .slice p len cap] 28) := S
      rw [h6] at hcs
      injection hcs with h7
      injection h7 with _ h8
      exact absurd h8 (by decide)
    exact .inr ⟨g, off, e, hg, ⟨cs, (o.block g (lt_of_heap hcs) hgB).trans hcs⟩, fun j c hj => (World.cell?_of_block (w := w) (a := ⟨g, off + j, none⟩) (o.block g (lt_of_heap hcs) hgB)).trans (hc j c hj)⟩
end Go.Proofs.YtoifjjgakblhhaaGreatDoor

/- The reader: bools, texts, literals, lists (given what list tells). -/
namespace Go.Proofs.YtoifjjgakblhhaaGreatDoor
open Go.RowKit

end Go.Proofs.YtoifjjgakblhhaaGreatDoor

/- The reader: lists, and values in one another. -/
namespace Go.Proofs.YtoifjjgakblhhaaGreatDoor
open Go.RowKit

/-- What a round of list keeps: the row of values read so far. -/
structure AccO (R : Nat) (w : World) (l : List Val) (A : Value) (wr : World) : Prop where
  own : ∃ xs, wr.ownsRow w.heap.size 28 6 A l.length xs ∧ CellsF wr (fun g => w.heap.size ≤ g ∧ g < wr.heap.size ∧ A.ownBlock ≠ some g) xs l
  on : Only R w wr
theorem Only.grownO {R : Nat} {w wf w1 : World} {row : Option Nat} (h : Only R w wf) (k : wf.grownBy w1 row) (hb : ∀ g, row = some g → w.heap.size ≤ g) : Only R w w1 :=
  ⟨k.os.trans h.os, k.tape.trans h.tape, k.output.trans h.output, Nat.le_trans h.size k.size, fun i hi e => (k.block i (Nat.lt_of_lt_of_le hi h.size) (fun e2 => by have := hb i e2.symm; omega)).trans (h.block i hi e)⟩
/-- The round's end: one value more. -/
theorem AccO.next {R : Nat} {w wr wf w1 : World} {l : List Val} {A A2 : Value} {xs : List Value} {k : Int} {b : Bool} {n : Int} {t x : ByteArray} {q : List Val} {V : Value} {o : Obj}
    (hx : wr.ownsRow w.heap.size 28 6 A l.length xs) (hc : CellsF wr (fun g => w.heap.size ≤ g ∧ g < wr.heap.size ∧ A.ownBlock ≠ some g) xs l) (hon : Only R w wr) (hR : R < w.heap.size)
    (bf : Only R wr wf) (hf : Fine n t x q.length) (hq : HeldF wf (fun g => wr.heap.size ≤ g ∧ g < wf.heap.size) V q)
    (hown : w1.ownsRow w.heap.size 28 6 A2 (l.length + 1) (xs ++ [.int .i64 k, .bool b, .int .i64 n, .string t, .string x, V])) (hgrow : (wf.alloc o).grownBy w1 A.ownBlock) (hloc : A2.ownBlock = A.ownBlock ∨ A2.ownBlock = some (wf.heap.size + 1)) :
    AccO R w (l ++ [.mk k b n t x q]) A2 w1 := by
  have hA : ∀ g, A.ownBlock = some g → g < wr.heap.size := fun g hg => (hx.lt g hg).2
  have s1 : (wf.alloc o).heap.size = wf.heap.size + 1 := by simp
  have s2 : wr.heap.size ≤ wf.heap.size := bf.size
  have s3 : (wf.alloc o).heap.size ≤ w1.heap.size := hgrow.size
  have s0 : w.heap.size ≤ wr.heap.size := hon.size
  have hn2 : ∀ g, g < wf.heap.size → A.ownBlock ≠ some g → A2.ownBlock ≠ some g := fun g hg hne h => by
    rcases hloc with h2 | h2
    · exact hne (h2 ▸ h)
    · rw [h2] at h
      have := Option.some.inj h
      omega
  have keep : ∀ g, g < wf.heap.size → A.ownBlock ≠ some g → w1.heap[g]? = wf.heap[g]? := fun g hg hne => by
    rw [hgrow.block g (by omega) (fun h => hne h.symm)]
    exact Below.heap_alloc _ _ _ hg
  refine ⟨⟨_, by rw [List.length_append]; exact hown, ?_⟩, ((hon.trans bf).alloc o).grownO hgrow (fun g hg => (hx.lt g hg).1)⟩
  refine CellsF.append l _ (hc.stays (fun g hg => ⟨⟨hg.1, by omega, hn2 g (by omega) hg.2.2⟩, ?_⟩) l) (CellsF.one hf (hq.stays (fun g hg => ?_) q))
  · rw [keep g (by omega) hg.2.2]
    exact bf.block g hg.2.1 (by omega)
  · have hne : A.ownBlock ≠ some g := fun h => by have := hA g h; omega
    exact ⟨⟨by omega, by omega, hn2 g hg.2 hne⟩, keep g hg.2 hne⟩
/-- The reader is as it was where a row of values grew. -/
theorem Rd.grown {w w1 : World} {R : Nat} {l : List UInt8} {A : Value} {base n : Nat} {xs : List Value} (h : Rd w R l) (hx : w.ownsRow base 28 6 A n xs) (k : w.grownBy w1 A.ownBlock) (hR : R < base) : Rd w1 R l := by
  have hty : ∀ g cs, w.heap[g]? = some (Obj.cells cs 5) → some g ≠ A.ownBlock := fun g cs hg e2 => by
    rcases hx.2 with ⟨e, _⟩ | ⟨g2, cap, cur, e, _, h2, _⟩
    · rw [e] at e2; cases e2
    · rw [e] at e2
      obtain rfl : g = g2 := Option.some.inj e2
      rw [hg] at h2
      injection h2 with h7
      injection h7 with _ h8
      exact absurd h8 (by decide)
  have hRA : some R ≠ A.ownBlock := fun e => by have := (hx.lt R e.symm).1; omega
  obtain ⟨p1, cap1, h1, h2, h3, h4⟩ := h
  refine ⟨p1, cap1, (k.block R (lt_of_heap h1) hRA).trans h1, h2, h3, ?_⟩
  rcases h4 with h4 | ⟨g, off, e, hg, ⟨cs, hcs⟩, hc⟩
  · exact .inl h4
  · exact .inr ⟨g, off, e, hg, ⟨cs, (k.block g (lt_of_heap hcs) (hty g cs hcs)).trans hcs⟩, fun j c hj => (World.cell?_of_block (w := w) (a := ⟨g, off + j, none⟩) (k.block g (lt_of_heap hcs) (hty g cs hcs))).trans (hc j c hj)⟩
end Go.Proofs.YtoifjjgakblhhaaGreatDoor

/- Decode. -/
namespace Go.Proofs.YtoifjjgakblhhaaGreatDoor
open Go.RowKit

/-- A slice of bytes: what it reads as, with its capacity and its block. -/
def Src (w : World) (A : Value) (l : List UInt8) : Prop := ∃ p cap, A = .slice p l.length cap ∧ l.length ≤ cap ∧ cap ≤ maxLen ∧
  ((p = none ∧ l = []) ∨ ∃ g off, p = some ⟨g, off, none⟩ ∧ (∃ cs : Array Value, w.heap[g]? = some (Obj.cells cs 5)) ∧ ∀ j c, l[j]? = some c → w.cell? ⟨g, off + j, none⟩ = some (.int .u8 c.toNat))
theorem Src.below {w w' : World} {A : Value} {l : List UInt8} (h : Src w A l) (b : Below w.heap.size w w') : Src w' A l := by
  obtain ⟨p, cap, e, h1, h2, h3⟩ := h
  refine ⟨p, cap, e, h1, h2, ?_⟩
  rcases h3 with h3 | ⟨g, off, e2, ⟨cs, hcs⟩, hc⟩
  · exact .inl h3
  · exact .inr ⟨g, off, e2, ⟨cs, (b.block g (lt_of_heap hcs)).trans hcs⟩, fun j c hj => (b.cell (p := ⟨g, off + j, none⟩) (World.block_lt_of_cell? w _ (hc j c hj))).trans (hc j c hj)⟩
theorem Rd.new {w : World} {A : Value} {l : List UInt8} (h : Src w A l) (R : Nat) (hR : R = w.heap.size) : Rd (w.alloc (.cells #[A] 71)) R l := by
  have h' := h.below (w' := w.alloc (.cells #[A] 71)) (below1 _ _)
  obtain ⟨p, cap, rfl, h1, h2, h3⟩ := h
  obtain ⟨p', cap', e, _, _, h4⟩ := h'
  cases e
  subst hR
  refine ⟨p, cap, heap_new _ _ rfl, h1, h2, ?_⟩
  rcases h4 with h4 | ⟨g, off, e2, hcs, hc⟩
  · exact .inl h4
  · refine .inr ⟨g, off, e2, fun e3 => ?_, hcs, hc⟩
    rcases h3 with ⟨h3, _⟩ | ⟨g2, off2, e4, ⟨cs, hcs2⟩, _⟩
    · rw [h3] at e2; cases e2
    · rw [e4] at e2
      cases e2
      have := lt_of_heap hcs2
      omega
theorem Rd.cell {w : World} {R : Nat} {l : List UInt8} (h : Rd w R l) : ∃ p cap, w.cell? ⟨R, 0, none⟩ = some (.slice p l.length cap) := by
  obtain ⟨p, cap, h, _⟩ := h
  exact ⟨p, cap, cell_of h _ rfl⟩
end Go.Proofs.YtoifjjgakblhhaaGreatDoor

/- The document's own reader: take, num, text. -/
namespace Go.Proofs.YtoifjjgakblhhaaGreatDoor
open Go.RowKit

/-- The document's own reader: its block, the bytes that are left, whether it is bad. -/
def Rz (w : World) (R : Nat) (l : List UInt8) (bad : Bool) : Prop := ∃ p cap, w.heap[R]? = some (.cells #[.slice p l.length cap, .bool bad] 76) ∧ l.length ≤ cap ∧ cap ≤ maxLen ∧
  (l = [] ∨ ∃ g off, p = some ⟨g, off, none⟩ ∧ g < R ∧ ∀ j c, l[j]? = some c → w.cell? ⟨g, off + j, none⟩ = some (.int .u8 c.toNat))
theorem Rz.lt {w : World} {R : Nat} {l : List UInt8} {bad : Bool} (h : Rz w R l bad) : R < w.heap.size := by
  obtain ⟨p, cap, h, _⟩ := h
  exact lt_of_heap h
theorem Rz.below {w w' : World} {R : Nat} {l : List UInt8} {bad : Bool} (h : Rz w R l bad) (b : Below w.heap.size w w') : Rz w' R l bad := by
  obtain ⟨p, cap, h1, h2, h3, h4⟩ := h
  refine ⟨p, cap, (b.block R (lt_of_heap h1)).trans h1, h2, h3, ?_⟩
  rcases h4 with h4 | ⟨g, off, e, hne, hc⟩
  · exact .inl h4
  · exact .inr ⟨g, off, e, hne, fun j c hj => (b.cell (p := ⟨g, off + j, none⟩) (World.block_lt_of_cell? w _ (hc j c hj))).trans (hc j c hj)⟩
/-- The reader's mark was set. -/
theorem Rz.mark {w w' : World} {R : Nat} {l : List UInt8} {bad : Bool} (h : Rz w R l bad) (o : Only R w w') (b' : Bool) (hw : ∀ p cap, w.heap[R]? = some (.cells #[.slice p l.length cap, .bool bad] 76) → w'.heap[R]? = some (.cells #[.slice p l.length cap, .bool b'] 76)) : Rz w' R l b' := by
  obtain ⟨p, cap, h1, h2, h3, h4⟩ := h
  refine ⟨p, cap, hw p cap h1, h2, h3, ?_⟩
  rcases h4 with h4 | ⟨g, off, e, hne, hc⟩
  · exact .inl h4
  · exact .inr ⟨g, off, e, hne, fun j c hj => (World.cell?_of_block (w := w) (a := ⟨g, off + j, none⟩) (o.block g (World.block_lt_of_cell? w _ (hc j c hj)) (by omega))).trans (hc j c hj)⟩
theorem Rz.set1 {w : World} {R : Nat} {l : List UInt8} {bad : Bool} (h : Rz w R l bad) (b' : Bool) : Rz (w.setCell ⟨R, 1, none⟩ (.bool b')) R l b' :=
  h.mark ((Only.refl R w).setCell 1 none _) b' (fun _ _ h1 => heap_set h1 1 (.bool b'))
end Go.Proofs.YtoifjjgakblhhaaGreatDoor

/- The document's own reader: num, text. -/
namespace Go.Proofs.YtoifjjgakblhhaaGreatDoor
open Go.RowKit

end Go.Proofs.YtoifjjgakblhhaaGreatDoor

/- The document's own reader: a value, kind by kind. -/
namespace Go.Proofs.YtoifjjgakblhhaaGreatDoor
open Go.RowKit

theorem Rz.c1 {w : World} {R : Nat} {l : List UInt8} {bad : Bool} (h : Rz w R l bad) : w.cell? ⟨R, 1, none⟩ = some (.bool bad) := by
  obtain ⟨p, cap, h, _⟩ := h
  exact cell_of h _ rfl
theorem Rz.f1 {w : World} {R : Nat} {l : List UInt8} {bad : Bool} (h : Rz w R l bad) : w.frozen? ⟨R, 1, none⟩ = false := by
  obtain ⟨p, cap, h, _⟩ := h
  exact free_of h _
/-- A value's box was written: the reader is as it was. -/
theorem Rz.six {w w' : World} {R B : Nat} {l : List UInt8} {bad : Bool} {k : Int} {b : Bool} {n : Int} {t x : ByteArray} {p : Option Addr} {len cap : Nat} (h : Rz w R l bad) (_S : Six w B k b n t x p len cap) (o : Only B w w') (hRB : R < B) : Rz w' R l bad := by
  obtain ⟨p1, cap1, h1, h2, h3, h4⟩ := h
  refine ⟨p1, cap1, (o.block R (lt_of_heap h1) (by omega)).trans h1, h2, h3, ?_⟩
  rcases h4 with h4 | ⟨g, off, e, hg, hc⟩
  · exact .inl h4
  · exact .inr ⟨g, off, e, hg, fun j c hj => (World.cell?_of_block (w := w) (a := ⟨g, off + j, none⟩) (o.block g (World.block_lt_of_cell? w _ (hc j c hj)) (by omega))).trans (hc j c hj)⟩
end Go.Proofs.YtoifjjgakblhhaaGreatDoor

/- The document's own reader: bools, texts, literals. -/
namespace Go.Proofs.YtoifjjgakblhhaaGreatDoor
open Go.RowKit

end Go.Proofs.YtoifjjgakblhhaaGreatDoor
