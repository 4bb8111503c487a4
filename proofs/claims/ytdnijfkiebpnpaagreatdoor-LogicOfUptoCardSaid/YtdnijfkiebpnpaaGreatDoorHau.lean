/- Texts of one kind, one behind the other: each says ahead of itself what it shows. -/
import Derived.Test.YtdnijfkiebpnpaaGreatDoorHaj
import Derived.Test.YtdnijfkiebpnpaaGreatDoorHae
import Derived.Deep.LoopGhost
import Derived.Deep.Cut
import Derived.Deep.CutRange
import Derived.Deep.CutBlock
import Derived.Deep.DeepCutAuto
import Derived.Test.YtdnijfkiebpnpaaGreatDoorHat
import Derived.Test.YtdnijfkiebpnpaaGreatDoorHak
/- Equality goes both ways; what is the same is equal. No Go stands here. -/
namespace Go.Proofs.YtdnijfkiebpnpaaGreatDoor

mutual
theorem sameP_comm : (v v2 : Val) → sameP v v2 = sameP v2 v
  | .mk k b n t x l, .mk k2 b2 n2 t2 x2 l2 => by
    unfold sameP
    rw [eachSame_comm l l2, show (k == k2) = (k2 == k) from BEq.comm, show (b == b2) = (b2 == b) from BEq.comm, show (n == n2) = (n2 == n) from BEq.comm,
      show (t.toList == t2.toList) = (t2.toList == t.toList) from BEq.comm, show (x.toList == x2.toList) = (x2.toList == x.toList) from BEq.comm, show (l.length == l2.length) = (l2.length == l.length) from BEq.comm]
theorem eachSame_comm : (l l2 : List Val) → eachSame l l2 = eachSame l2 l
  | [], [] => rfl
  | [], _ :: _ => by unfold eachSame; rfl
  | _ :: _, [] => by unfold eachSame; rfl
  | v :: r, v2 :: r2 => by
    unfold eachSame
    rw [sameP_comm v v2, eachSame_comm r r2]
end
mutual
theorem sameP_refl : (v : Val) → sameP v v = true
  | .mk k b n t x l => by
    unfold sameP
    rw [eachSame_refl l]
    simp
theorem eachSame_refl : (l : List Val) → eachSame l l = true
  | [] => by unfold eachSame; rfl
  | v :: r => by
    unfold eachSame
    rw [sameP_refl v, eachSame_refl r]
    rfl
end
theorem cmpZ_comm0 (a b : Int) : (cmpZ a b == 0) = (cmpZ b a == 0) := by
  rw [cmpZ_swap b a, Bool.eq_iff_iff, beq_iff_eq, beq_iff_eq]
  omega
theorem andE_comm (a b : Int) : andE a b = andE b a := by
  unfold andE
  have e1 : (a = 0 ∨ b = 0) = (b = 0 ∨ a = 0) := propext Or.comm
  have e2 : (a = 2 ∨ b = 2) = (b = 2 ∨ a = 2) := propext Or.comm
  simp only [e1, e2]
mutual
theorem equalP_comm (lang : Int) : (v v2 : Val) → equalP lang v v2 = equalP lang v2 v
  | .mk k b n t x l, .mk k2 b2 n2 t2 x2 l2 => by
    unfold equalP
    have e1 : (k = 0 ∨ k2 = 0) = (k2 = 0 ∨ k = 0) := propext Or.comm
    have e2 : (numB k = true ∧ numB k2 = true) = (numB k2 = true ∧ numB k = true) := propext And.comm
    have e3 : (graphB k || (graphB k2 || (openP k k2 (sameP (.mk k b n t x l) (.mk k2 b2 n2 t2 x2 l2)) || openP k2 k (sameP (.mk k2 b2 n2 t2 x2 l2) (.mk k b n t x l))))) =
        (graphB k2 || (graphB k || (openP k2 k (sameP (.mk k2 b2 n2 t2 x2 l2) (.mk k b n t x l)) || openP k k2 (sameP (.mk k b n t x l) (.mk k2 b2 n2 t2 x2 l2))))) := by
      cases graphB k <;> cases graphB k2 <;> simp [Bool.or_comm]
    have e4 : (k = 5 ∧ k2 = 5) = (k2 = 5 ∧ k = 5) := propext And.comm
    have e5 : (if l.length = l2.length then eachEqual lang l l2 else 0) = (if l2.length = l.length then eachEqual lang l2 l else 0) := by
      by_cases h : l.length = l2.length
      · rw [if_pos h, if_pos h.symm, eachEqual_comm lang l l2]
      · rw [if_neg h, if_neg (fun e => h e.symm)]
    rw [e3, e5, cmpZ_comm0, sameP_comm (.mk k b n t x l) (.mk k2 b2 n2 t2 x2 l2)]
    simp only [e1, e2, e4]
theorem eachEqual_comm (lang : Int) : (l l2 : List Val) → eachEqual lang l l2 = eachEqual lang l2 l
  | [], [] => rfl
  | [], _ :: _ => by unfold eachEqual; rfl
  | _ :: _, [] => by unfold eachEqual; rfl
  | v :: r, v2 :: r2 => by
    unfold eachEqual
    rw [equalP_comm lang v v2, eachEqual_comm lang r r2]
end
theorem andE_ne {a b : Int} (h : a ≠ 0) (g : b ≠ 0) : andE a b ≠ 0 := by
  unfold andE
  rw [if_neg (by omega)]
  split <;> omega
theorem cmpZ_self (a : Int) : cmpZ a a = 0 := by unfold cmpZ; simp
mutual
theorem equalP_self (lang : Int) : (v : Val) → equalP lang v v ≠ 0
  | .mk k b n t x l => by
    unfold equalP
    split
    · omega
    · split
      · rw [cmpZ_self]; decide
      · split
        · omega
        · split
          · rw [if_pos rfl]; exact eachEqual_self lang l
          · rw [sameP_refl]; decide
theorem eachEqual_self (lang : Int) : (l : List Val) → eachEqual lang l l ≠ 0
  | [] => by unfold eachEqual; omega
  | v :: r => by
    unfold eachEqual
    exact andE_ne (equalP_self lang v) (eachEqual_self lang r)
end
theorem equalP_plain (lang : Int) (k : Int) (b : Bool) (n : Int) (t x : ByteArray) (l : List Val) (h1 : 1 ≤ k) (h4 : k ≤ 4) : equalP lang (.mk k b n t x l) (.mk k b n t x l) = 1 := by
  unfold equalP
  rw [if_neg (by omega)]
  split
  · rw [cmpZ_self]; rfl
  · have g : graphB k = false := by unfold graphB; simp; omega
    have o : openP k k (sameP (.mk k b n t x l) (.mk k b n t x l)) = false := by unfold openP; rw [show (k == 10) = false by simp; omega]; rfl
    rw [if_neg (by rw [g, o]; simp), if_neg (by omega), sameP_refl]
    rfl
end Go.Proofs.YtdnijfkiebpnpaaGreatDoor

/- What a law's round keeps: its argument's box; the value that has nothing in it. -/
namespace Go.Proofs.YtdnijfkiebpnpaaGreatDoor
open Go.RowKit

/-- What the law's round keeps: its argument's box; what lay below. -/
structure LInv (w : World) (L ln : Value) (W : World) : Prop where
  cell : W.cell? ⟨w.heap.size, 0, none⟩ = some L
  cell1 : W.cell? ⟨w.heap.size, 1, none⟩ = some ln
  lt : w.heap.size < W.heap.size
  bel : Below w.heap.size w W
theorem LInv.step {w W W2 : World} {L ln : Value} (h : LInv w L ln W) (k : Below W.heap.size W W2) : LInv w L ln W2 :=
  ⟨(k.cell (p := ⟨w.heap.size, 0, none⟩) h.lt).trans h.cell, (k.cell (p := ⟨w.heap.size, 1, none⟩) h.lt).trans h.cell1, Nat.lt_of_lt_of_le h.lt k.size, below_any h.bel k (Nat.le_of_lt h.lt)⟩
theorem LInv.start (w : World) (L ln : Value) : LInv w L ln (w.alloc (.cells #[L, ln] 24)) :=
  ⟨cell_of (heap_new _ _ rfl) _ rfl, cell_of (heap_new _ _ rfl) _ rfl, by simp, below1 _ _⟩
end Go.Proofs.YtdnijfkiebpnpaaGreatDoor

/- Truth values back as values, both; the law LogicOf, walked. -/
namespace Go.Proofs.YtdnijfkiebpnpaaGreatDoor
open Go.RowKit

theorem backBad (a : Int) (h : a = -2 ∨ a = -1 ∨ a = 3 ∨ a = 4 ∨ a = 5) (w : World) : Calls Tryz.prog 6 #[.int .i64 a] w fun e w' => e = .returned (.tuple #[.agg #[.int .i64 0, .bool false, .int .i64 0, .string ⟨#[]⟩, .string ⟨#[]⟩, .slice none 0 0], .int .i64 1]) ∧ Below w.heap.size w w' := by
  rcases h with rfl | rfl | rfl | rfl | rfl
  all_goals
    go_enter Tryz.func6, Tryz.ntmps6
    go_wp2_with fail
    exact bodyPost_ret (results_six_tmp (p := 2) (q := 3) Tryz.results6 _ (.int .i64 1) rfl rfl (six_new _ rfl)) rfl ⟨rfl, below1 _ _⟩
theorem rback0 (w : World) : Calls Tryz.prog 7 #[.int .i64 0] w fun e w' => e = .returned (.tuple #[.agg #[.int .i64 1, .bool false, .int .i64 0, .string ⟨#[]⟩, .string ⟨#[]⟩, .slice none 0 0], .int .i64 0]) ∧ Below w.heap.size w w' := by
  go_enter Tryz.func7, Tryz.ntmps7
  go_wp2_with fail
  exact bodyPost_ret (results_six_tmp (p := 2) (q := 3) Tryz.results7 _ (.int .i64 0) rfl rfl (six_new _ rfl)) rfl ⟨rfl, below1 _ _⟩
theorem rback1 (w : World) : Calls Tryz.prog 7 #[.int .i64 1] w fun e w' => e = .returned (.tuple #[.agg #[.int .i64 1, .bool true, .int .i64 0, .string ⟨#[]⟩, .string ⟨#[]⟩, .slice none 0 0], .int .i64 0]) ∧ Below w.heap.size w w' := by
  go_enter Tryz.func7, Tryz.ntmps7
  go_wp2_with fail
  exact bodyPost_ret (results_six_tmp (p := 2) (q := 3) Tryz.results7 _ (.int .i64 0) rfl rfl (six_new _ rfl)) rfl ⟨rfl, below1 _ _⟩
theorem rback2 (w : World) : Calls Tryz.prog 7 #[.int .i64 2] w fun e w' => e = .returned (.tuple #[.agg #[.int .i64 0, .bool false, .int .i64 0, .string ⟨#[]⟩, .string ⟨#[]⟩, .slice none 0 0], .int .i64 0]) ∧ Below w.heap.size w w' := by
  go_enter Tryz.func7, Tryz.ntmps7
  go_wp2_with fail
  exact bodyPost_ret (results_six_tmp (p := 2) (q := 3) Tryz.results7 _ (.int .i64 0) rfl rfl (six_new _ rfl)) rfl ⟨rfl, below1 _ _⟩
theorem rbackBad (a : Int) (h : a = -2 ∨ a = -1 ∨ a = 3 ∨ a = 4 ∨ a = 5) (w : World) : Calls Tryz.prog 7 #[.int .i64 a] w fun e w' => e = .returned (.tuple #[.agg #[.int .i64 0, .bool false, .int .i64 0, .string ⟨#[]⟩, .string ⟨#[]⟩, .slice none 0 0], .int .i64 1]) ∧ Below w.heap.size w w' := by
  rcases h with rfl | rfl | rfl | rfl | rfl
  all_goals
    go_enter Tryz.func7, Tryz.ntmps7
    go_wp2_with fail
    exact bodyPost_ret (results_six_tmp (p := 2) (q := 3) Tryz.results7 _ (.int .i64 1) rfl rfl (six_new _ rfl)) rfl ⟨rfl, below1 _ _⟩
theorem backBoth (a : Int) (h0 : -2 ≤ a) (h1 : a ≤ 5) : ∃ (K : Int) (B : Bool) (e9 : Int), (∀ W, Calls Tryz.prog 6 #[.int .i64 a] W fun e w' => e = .returned (.tuple #[.agg #[.int .i64 K, .bool B, .int .i64 0, .string ⟨#[]⟩, .string ⟨#[]⟩, .slice none 0 0], .int .i64 e9]) ∧ Below W.heap.size W w') ∧
    (∀ W, Calls Tryz.prog 7 #[.int .i64 a] W fun e w' => e = .returned (.tuple #[.agg #[.int .i64 K, .bool B, .int .i64 0, .string ⟨#[]⟩, .string ⟨#[]⟩, .slice none 0 0], .int .i64 e9]) ∧ Below W.heap.size W w') := by
  by_cases a0 : a = 0
  · subst a0; exact ⟨1, false, 0, back0, rback0⟩
  by_cases a1 : a = 1
  · subst a1; exact ⟨1, true, 0, back1, rback1⟩
  by_cases a2 : a = 2
  · subst a2; exact ⟨0, false, 0, back2, rback2⟩
  · exact ⟨0, false, 1, backBad a (by omega), rbackBad a (by omega)⟩

set_option maxRecDepth 200000 in
set_option maxHeartbeats 40000000 in
theorem ofSome (l : List Val) (g off cap : Nat) (lang : Int) (w : World) (hG : Gd w) (hT : Tab w) (hl : Holds w g off l) (hn : l.length ≤ 2097152) :
    Calls Tryz.prog 3 #[.agg #[.slice (some ⟨g, off, none⟩) l.length cap, .int .i64 lang]] w fun e w' => e = .returned (.bool true) ∧ Below w.heap.size w w' := by
  have I0 := LInv.start w (.slice (some ⟨g, off, none⟩) l.length cap) (.int .i64 lang)
  obtain ⟨n, hln⟩ : ∃ n, n = l.length := ⟨_, rfl⟩
  rw [← hln] at hn I0 ⊢
  have HL := Lib.hid hln
  have HH := Lib.hid hl
  have HGG := Lib.hid hG
  have HTT := Lib.hid hT
  clear hl hln hG hT
  go_enter Tryz.func3, Tryz.ntmps3
  go_wp2_with fail
  go_loopg [3] n (fun gg s3 wr => ∃ j : Nat, j + gg = n ∧ s3 = .int .i64 j ∧ LInv w (.slice (some ⟨g, off, none⟩) n cap) (.int .i64 lang) wr)
  case atStart => exact ⟨0, by omega, rfl, I0⟩
  case round =>
    clear I0
    obtain ⟨j, hjg, rfl, I⟩ := hrel
    have hp := I.cell
    by_cases hlt : (j : Int) < n
    · by_cases h20 : (j : Int) < 30
      · have hj1 : j < l.length := by have := HL.out; omega
        obtain ⟨k, b, m, t, x, q, p, cp, o10⟩ := (Holds.at_ l off HH.out j hj1).opens
        have d5 := (o10.below I.bel).c5
        have HO1 := Lib.hid o10
        clear o10
        by_cases h100 : (100 : Int) < q.length
        · have J := I
          go_wp2_with fail
          go_roundg (n - (j + 1))
          case measure => omega
          case rel => exact ⟨j + 1, by omega, by go_num, J⟩
        · obtain ⟨a9, e9, ho1, ho2⟩ := ofBoth lang k b m t x q HO1.out.hf
          have H1 : Hid (∀ W, LInv w (.slice (some ⟨g, off, none⟩) n cap) (.int .i64 lang) W → Calls Tryz.prog 4 #[.int .i64 lang, .agg #[.int .i64 k, .bool b, .int .i64 m, .string t, .string x, .slice p q.length cp]] W fun e w' => e = .returned (.tuple #[.int .i64 a9, .int .i64 e9]) ∧ Below W.heap.size W w') := Lib.hid fun W h => ho1 W p cp (HGG.out.below h.bel) (HTT.out.below h.bel) (HO1.out.below h.bel).hl
          have H2 : Hid (∀ W, LInv w (.slice (some ⟨g, off, none⟩) n cap) (.int .i64 lang) W → Calls Tryz.prog 5 #[.int .i64 lang, .agg #[.int .i64 k, .bool b, .int .i64 m, .string t, .string x, .slice p q.length cp]] W fun e w' => e = .returned (.tuple #[.int .i64 a9, .int .i64 e9]) ∧ Below W.heap.size W w') := Lib.hid fun W h => ho2 W p cp (HO1.out.below h.bel).hl
          have HRo1 : Hid (∀ W, LInv w (.slice (some ⟨g, off, none⟩) n cap) (.int .i64 lang) W → W.rangeAt g (off + j * 6) [.int .i64 k, .bool b, .int .i64 m, .string t, .string x, .slice p q.length cp]) := Lib.hid fun W h => (HO1.out.below h.bel).range
          have q1 : (a9 != a9) = false := by simp
          have q2 : (e9 != e9) = false := by simp
          clear ho1 ho2
          have J := I
          clear I
          go_upto_region 5 with fail
          clear hp d5
          refine wp_region_held_drew (S := fun W => LInv w (.slice (some ⟨g, off, none⟩) n cap) (.int .i64 lang) W) (by kernel_rfl) (J.step (Below.refl _ _).drew) (fun hHeld => ?_)
          clear J
          refine wpAnyH_take (i := 0) (v := (.pointer (some ⟨w.heap.size, 1, none⟩))) rfl (by kernel_rfl) (by kernel_rfl) (by kernel_rfl) (fun _ _ _ h => h) (Or.inl ⟨by rfl, fun W _ => by go_simp⟩) hHeld ?_
          try simp only [Act.put, List.getElem_toArray, List.getElem_cons_succ, List.getElem_cons_zero, List.setIfInBounds_toArray, List.set_cons_zero, List.set_cons_succ]
          refine wpAnyH_take (i := 1) (v := (.int .i64 lang)) rfl (by kernel_rfl) (by kernel_rfl) (by kernel_rfl) (fun _ _ _ h => h) (Or.inl ⟨by rfl, fun W h => by have c := h.cell1; go_simp⟩) hHeld ?_
          try simp only [Act.put, List.getElem_toArray, List.getElem_cons_succ, List.getElem_cons_zero, List.setIfInBounds_toArray, List.set_cons_zero, List.set_cons_succ]
          refine wpAnyH_take (i := 2) (v := (.pointer (some ⟨w.heap.size, 0, none⟩))) rfl (by kernel_rfl) (by kernel_rfl) (by kernel_rfl) (fun _ _ _ h => h) (Or.inl ⟨by rfl, fun W _ => by go_simp⟩) hHeld ?_
          try simp only [Act.put, List.getElem_toArray, List.getElem_cons_succ, List.getElem_cons_zero, List.setIfInBounds_toArray, List.set_cons_zero, List.set_cons_succ]
          refine wpAnyH_take (i := 3) (v := (.slice (some ⟨g, off, none⟩) n cap)) rfl (by kernel_rfl) (by kernel_rfl) (by kernel_rfl) (fun _ _ _ h => h) (Or.inl ⟨by rfl, fun W h => by have c := h.cell; go_simp⟩) hHeld ?_
          try simp only [Act.put, List.getElem_toArray, List.getElem_cons_succ, List.getElem_cons_zero, List.setIfInBounds_toArray, List.set_cons_zero, List.set_cons_succ]
          refine wpAnyH_take (i := 4) (v := (.int .i64 j)) rfl (by kernel_rfl) (by kernel_rfl) (by kernel_rfl) (fun _ _ _ h => h) (Or.inl ⟨by rfl, fun W _ => by go_simp⟩) hHeld ?_
          try simp only [Act.put, List.getElem_toArray, List.getElem_cons_succ, List.getElem_cons_zero, List.setIfInBounds_toArray, List.set_cons_zero, List.set_cons_succ]
          refine wpAnyH_take (i := 5) (v := (.pointer (some ⟨g, off + j * 6, none⟩))) rfl (by kernel_rfl) (by kernel_rfl) (by kernel_rfl) (fun _ _ _ h => h) (Or.inl ⟨by rfl, fun W _ => by go_simp <;> (intro h; exfalso; omega)⟩) hHeld ?_
          try simp only [Act.put, List.getElem_toArray, List.getElem_cons_succ, List.getElem_cons_zero, List.setIfInBounds_toArray, List.set_cons_zero, List.set_cons_succ]
          refine wpAnyH_take (i := 6) rfl (by kernel_rfl) (by kernel_rfl) (by kernel_rfl) (fun _ _ _ h => h) (yieldsIf_load_mid (by rfl) 26 (.tmp 38) rfl g (off + j * 6) rfl _ _ (fun W h => HRo1.out W h) Tryz.underlying26 rfl info28) hHeld ?_
          try simp only [Act.put, List.getElem_toArray, List.getElem_cons_succ, List.getElem_cons_zero, List.setIfInBounds_toArray, List.set_cons_zero, List.set_cons_succ]
          refine wpAnyH_ready (rs := [7]) (by kernel_rfl) (by simp) ?_
          refine AllReadyH.cons rfl (fun K hK => ?_) AllReadyH.nil
          try rw [if_pos (by rfl)]
          go_simp
          refine (H1.out _ hHeld).mono ?_
          rintro e w3 ⟨rfl, hb3⟩
          refine hK.out _ _ (hHeld.step hb3) (fun hHeld2 => ?_)
          clear hK K hHeld
          have hHeld := hHeld2
          clear hHeld2
          try simp only [Act.put, List.getElem_toArray, List.getElem_cons_succ, List.getElem_cons_zero, List.setIfInBounds_toArray, List.set_cons_zero, List.set_cons_succ]
          refine wpAnyH_take (i := 8) (v := (.tuple #[.int .i64 a9, .int .i64 e9])) rfl (by kernel_rfl) (by kernel_rfl) (by kernel_rfl) (fun _ _ _ h => h) (Or.inl ⟨by rfl, fun W _ => by go_simp⟩) hHeld ?_
          try simp only [Act.put, List.getElem_toArray, List.getElem_cons_succ, List.getElem_cons_zero, List.setIfInBounds_toArray, List.set_cons_zero, List.set_cons_succ]
          refine wpAnyH_take (i := 9) (v := (.int .i64 a9)) rfl (by kernel_rfl) (by kernel_rfl) (by kernel_rfl) (fun _ _ _ h => h) (Or.inl ⟨by rfl, fun W _ => by go_simp⟩) hHeld ?_
          try simp only [Act.put, List.getElem_toArray, List.getElem_cons_succ, List.getElem_cons_zero, List.setIfInBounds_toArray, List.set_cons_zero, List.set_cons_succ]
          refine wpAnyH_take (i := 10) (v := (.int .i64 e9)) rfl (by kernel_rfl) (by kernel_rfl) (by kernel_rfl) (fun _ _ _ h => h) (Or.inl ⟨by rfl, fun W _ => by go_simp⟩) hHeld ?_
          try simp only [Act.put, List.getElem_toArray, List.getElem_cons_succ, List.getElem_cons_zero, List.setIfInBounds_toArray, List.set_cons_zero, List.set_cons_succ]
          refine wpAnyH_ready (rs := [11]) (by kernel_rfl) (by simp) ?_
          refine AllReadyH.cons rfl (fun K hK => ?_) AllReadyH.nil
          try rw [if_pos (by rfl)]
          go_simp
          refine hK.out _ _ (hHeld) (fun hHeld2 => ?_)
          clear hK K hHeld
          have hHeld := hHeld2
          clear hHeld2
          try simp only [Act.put, List.getElem_toArray, List.getElem_cons_succ, List.getElem_cons_zero, List.setIfInBounds_toArray, List.set_cons_zero, List.set_cons_succ]
          refine wpAnyH_ready (rs := [12]) (by kernel_rfl) (by simp) ?_
          refine AllReadyH.cons rfl (fun K hK => ?_) AllReadyH.nil
          try rw [if_pos (by rfl)]
          go_simp
          refine hK.out _ _ (hHeld) (fun hHeld2 => ?_)
          clear hK K hHeld
          have hHeld := hHeld2
          clear hHeld2
          try simp only [Act.put, List.getElem_toArray, List.getElem_cons_succ, List.getElem_cons_zero, List.setIfInBounds_toArray, List.set_cons_zero, List.set_cons_succ]
          refine wpAnyH_done (by kernel_rfl) ?_ _
          have J := hHeld
          clear hHeld
          go_upto_region 6 with fail
          refine wp_region_held_drew (S := fun W => LInv w (.slice (some ⟨g, off, none⟩) n cap) (.int .i64 lang) W) (by kernel_rfl) (J.step (Below.refl _ _).drew) (fun hHeld => ?_)
          clear J
          refine wpAnyH_take (i := 0) (v := (.pointer (some ⟨w.heap.size, 1, none⟩))) rfl (by kernel_rfl) (by kernel_rfl) (by kernel_rfl) (fun _ _ _ h => h) (Or.inl ⟨by rfl, fun W _ => by go_simp⟩) hHeld ?_
          try simp only [Act.put, List.getElem_toArray, List.getElem_cons_succ, List.getElem_cons_zero, List.setIfInBounds_toArray, List.set_cons_zero, List.set_cons_succ]
          refine wpAnyH_take (i := 1) (v := (.int .i64 lang)) rfl (by kernel_rfl) (by kernel_rfl) (by kernel_rfl) (fun _ _ _ h => h) (Or.inl ⟨by rfl, fun W h => by have c := h.cell1; go_simp⟩) hHeld ?_
          try simp only [Act.put, List.getElem_toArray, List.getElem_cons_succ, List.getElem_cons_zero, List.setIfInBounds_toArray, List.set_cons_zero, List.set_cons_succ]
          refine wpAnyH_take (i := 2) (v := (.pointer (some ⟨w.heap.size, 0, none⟩))) rfl (by kernel_rfl) (by kernel_rfl) (by kernel_rfl) (fun _ _ _ h => h) (Or.inl ⟨by rfl, fun W _ => by go_simp⟩) hHeld ?_
          try simp only [Act.put, List.getElem_toArray, List.getElem_cons_succ, List.getElem_cons_zero, List.setIfInBounds_toArray, List.set_cons_zero, List.set_cons_succ]
          refine wpAnyH_take (i := 3) (v := (.slice (some ⟨g, off, none⟩) n cap)) rfl (by kernel_rfl) (by kernel_rfl) (by kernel_rfl) (fun _ _ _ h => h) (Or.inl ⟨by rfl, fun W h => by have c := h.cell; go_simp⟩) hHeld ?_
          try simp only [Act.put, List.getElem_toArray, List.getElem_cons_succ, List.getElem_cons_zero, List.setIfInBounds_toArray, List.set_cons_zero, List.set_cons_succ]
          refine wpAnyH_take (i := 4) (v := (.int .i64 j)) rfl (by kernel_rfl) (by kernel_rfl) (by kernel_rfl) (fun _ _ _ h => h) (Or.inl ⟨by rfl, fun W _ => by go_simp⟩) hHeld ?_
          try simp only [Act.put, List.getElem_toArray, List.getElem_cons_succ, List.getElem_cons_zero, List.setIfInBounds_toArray, List.set_cons_zero, List.set_cons_succ]
          refine wpAnyH_take (i := 5) (v := (.pointer (some ⟨g, off + j * 6, none⟩))) rfl (by kernel_rfl) (by kernel_rfl) (by kernel_rfl) (fun _ _ _ h => h) (Or.inl ⟨by rfl, fun W _ => by go_simp <;> (intro h; exfalso; omega)⟩) hHeld ?_
          try simp only [Act.put, List.getElem_toArray, List.getElem_cons_succ, List.getElem_cons_zero, List.setIfInBounds_toArray, List.set_cons_zero, List.set_cons_succ]
          refine wpAnyH_take (i := 6) rfl (by kernel_rfl) (by kernel_rfl) (by kernel_rfl) (fun _ _ _ h => h) (yieldsIf_load_mid (by rfl) 26 (.tmp 49) rfl g (off + j * 6) rfl _ _ (fun W h => HRo1.out W h) Tryz.underlying26 rfl info28) hHeld ?_
          try simp only [Act.put, List.getElem_toArray, List.getElem_cons_succ, List.getElem_cons_zero, List.setIfInBounds_toArray, List.set_cons_zero, List.set_cons_succ]
          refine wpAnyH_ready (rs := [7]) (by kernel_rfl) (by simp) ?_
          refine AllReadyH.cons rfl (fun K hK => ?_) AllReadyH.nil
          try rw [if_pos (by rfl)]
          go_simp
          refine (H2.out _ hHeld).mono ?_
          rintro e w3 ⟨rfl, hb3⟩
          refine hK.out _ _ (hHeld.step hb3) (fun hHeld2 => ?_)
          clear hK K hHeld
          have hHeld := hHeld2
          clear hHeld2
          try simp only [Act.put, List.getElem_toArray, List.getElem_cons_succ, List.getElem_cons_zero, List.setIfInBounds_toArray, List.set_cons_zero, List.set_cons_succ]
          refine wpAnyH_take (i := 8) (v := (.tuple #[.int .i64 a9, .int .i64 e9])) rfl (by kernel_rfl) (by kernel_rfl) (by kernel_rfl) (fun _ _ _ h => h) (Or.inl ⟨by rfl, fun W _ => by go_simp⟩) hHeld ?_
          try simp only [Act.put, List.getElem_toArray, List.getElem_cons_succ, List.getElem_cons_zero, List.setIfInBounds_toArray, List.set_cons_zero, List.set_cons_succ]
          refine wpAnyH_take (i := 9) (v := (.int .i64 a9)) rfl (by kernel_rfl) (by kernel_rfl) (by kernel_rfl) (fun _ _ _ h => h) (Or.inl ⟨by rfl, fun W _ => by go_simp⟩) hHeld ?_
          try simp only [Act.put, List.getElem_toArray, List.getElem_cons_succ, List.getElem_cons_zero, List.setIfInBounds_toArray, List.set_cons_zero, List.set_cons_succ]
          refine wpAnyH_take (i := 10) (v := (.int .i64 e9)) rfl (by kernel_rfl) (by kernel_rfl) (by kernel_rfl) (fun _ _ _ h => h) (Or.inl ⟨by rfl, fun W _ => by go_simp⟩) hHeld ?_
          try simp only [Act.put, List.getElem_toArray, List.getElem_cons_succ, List.getElem_cons_zero, List.setIfInBounds_toArray, List.set_cons_zero, List.set_cons_succ]
          refine wpAnyH_ready (rs := [11]) (by kernel_rfl) (by simp) ?_
          refine AllReadyH.cons rfl (fun K hK => ?_) AllReadyH.nil
          try rw [if_pos (by rfl)]
          go_simp
          refine hK.out _ _ (hHeld) (fun hHeld2 => ?_)
          clear hK K hHeld
          have hHeld := hHeld2
          clear hHeld2
          try simp only [Act.put, List.getElem_toArray, List.getElem_cons_succ, List.getElem_cons_zero, List.setIfInBounds_toArray, List.set_cons_zero, List.set_cons_succ]
          refine wpAnyH_ready (rs := [12]) (by kernel_rfl) (by simp) ?_
          refine AllReadyH.cons rfl (fun K hK => ?_) AllReadyH.nil
          try rw [if_pos (by rfl)]
          go_simp
          refine hK.out _ _ (hHeld) (fun hHeld2 => ?_)
          clear hK K hHeld
          have hHeld := hHeld2
          clear hHeld2
          try simp only [Act.put, List.getElem_toArray, List.getElem_cons_succ, List.getElem_cons_zero, List.setIfInBounds_toArray, List.set_cons_zero, List.set_cons_succ]
          refine wpAnyH_done (by kernel_rfl) ?_ _
          have J := hHeld
          clear hHeld
          go_wp2_with fail
          go_roundg (n - (j + 1))
          case measure => omega
          case rel => exact ⟨j + 1, by omega, by go_num, J⟩
      · go_wp2_with fail
        have J0 := I.bel
        clear I hp
        go_loopg [8] 8 (fun gg s8 wr => ∃ o : Nat, o + gg = 8 ∧ s8 = .int .i64 ((o : Int) - 2) ∧ Below w.heap.size w wr)
        case atStart => exact ⟨0, by omega, rfl, J0⟩
        case round =>
          clear J0
          obtain ⟨o, hog, rfl, J⟩ := hrel
          by_cases h6 : (o : Int) - 2 < 6
          · obtain ⟨K, B, e9, hb6, hb7⟩ := backBoth ((o : Int) - 2) (by omega) (by omega)
            have HB6 := Lib.hid hb6
            have HB7 := Lib.hid hb7
            have hsm : ∀ W, Calls Tryz.prog 8 #[.agg #[.int .i64 K, .bool B, .int .i64 0, .string ⟨#[]⟩, .string ⟨#[]⟩, .slice none 0 0], .agg #[.int .i64 K, .bool B, .int .i64 0, .string ⟨#[]⟩, .string ⟨#[]⟩, .slice none 0 0]] W fun e w' => e = .returned (.bool true) ∧ Below W.heap.size W w' := fun W => by
              have := sameZAll (.mk K B 0 ⟨#[]⟩ ⟨#[]⟩ []) W K B 0 ⟨#[]⟩ ⟨#[]⟩ [] none 0 (.mk K B 0 ⟨#[]⟩ ⟨#[]⟩ []) K B 0 ⟨#[]⟩ ⟨#[]⟩ [] none 0 rfl rfl (by decide) (lHeldNull W) (lHeldNull W)
              rw [sameP_refl] at this
              exact this
            have HSM := Lib.hid hsm
            have hne : (e9 != e9) = false := by simp
            clear hb6 hb7 hsm
            go_upto_region 13 with (go_at_call 6; (with_reducible refine (HB6.out _).mono ?_); rintro e w5 ⟨rfl, hb5⟩; have HX5 := Lib.hid hb5; clear hb5)
            obtain ⟨C0, hC0⟩ : ∃ C0, C0 = w5.alloc (.cells #[.int .i64 K, .bool B, .int .i64 0, .string ⟨#[]⟩, .string ⟨#[]⟩, .slice none 0 0] 26) := ⟨_, rfl⟩
            obtain ⟨ec, hec⟩ : ∃ ec, ec = w5.heap.size := ⟨_, rfl⟩
            rw [← hC0, ← hec]
            have JC : Below w.heap.size w C0 := by rw [hC0]; exact (below_any J HX5.out J.size).alloc (below_any J HX5.out J.size).size _
            have S7 : Six C0 ec K B 0 ⟨#[]⟩ ⟨#[]⟩ none 0 0 := by rw [hC0, hec]; exact six_new _ rfl
            clear hC0 hec HX5
            go_upto_region 14 with (go_at_call 7; (with_reducible refine (HB7.out _).mono ?_); rintro e w6 ⟨rfl, hb6⟩; have HX6 := Lib.hid hb6; clear hb6)
            obtain ⟨D0, hD0⟩ : ∃ D0, D0 = w6.alloc (.cells #[.int .i64 K, .bool B, .int .i64 0, .string ⟨#[]⟩, .string ⟨#[]⟩, .slice none 0 0] 26) := ⟨_, rfl⟩
            obtain ⟨ed, hed⟩ : ∃ ed, ed = w6.heap.size := ⟨_, rfl⟩
            rw [← hD0, ← hed]
            have bcd : Below C0.heap.size C0 D0 := by rw [hD0]; exact HX6.out.alloc HX6.out.size _
            have S9 : Six D0 ed K B 0 ⟨#[]⟩ ⟨#[]⟩ none 0 0 := by rw [hD0, hed]; exact six_new _ rfl
            replace S7 := S7.below bcd
            have JD := below_any JC bcd JC.size
            clear hD0 hed HX6 bcd
            go_wp2_with (first
              | ((with_reducible refine wpList_load6g (.tmp 9) ec S7 ?_ ?_ ?_ ?_); rfl; rfl; rfl)
              | ((with_reducible refine wpList_load6g (.tmp 11) ed S9 ?_ ?_ ?_ ?_); rfl; rfl; rfl)
              | (go_at_call 8; (with_reducible refine (HSM.out _).mono ?_); rintro e w7 ⟨rfl, hb7⟩; replace JD := below_any JD hb7 JD.size; clear hb7))
            go_roundg (8 - (o + 1))
            case measure => omega
            case rel => exact ⟨o + 1, by omega, by go_num, JD⟩
          · go_wp2_with (go_at_call 9; (with_reducible refine (wakesAt _).mono ?_); rintro e w' ⟨rfl, hb⟩; replace J := below_any J hb J.size)
            go_ret
            exact ⟨rfl, J⟩
    · go_wp2_with fail
      have J0 := I.bel
      clear I hp
      go_loopg [8] 8 (fun gg s8 wr => ∃ o : Nat, o + gg = 8 ∧ s8 = .int .i64 ((o : Int) - 2) ∧ Below w.heap.size w wr)
      case atStart => exact ⟨0, by omega, rfl, J0⟩
      case round =>
        clear J0
        obtain ⟨o, hog, rfl, J⟩ := hrel
        by_cases h6 : (o : Int) - 2 < 6
        · obtain ⟨K, B, e9, hb6, hb7⟩ := backBoth ((o : Int) - 2) (by omega) (by omega)
          have HB6 := Lib.hid hb6
          have HB7 := Lib.hid hb7
          have hsm : ∀ W, Calls Tryz.prog 8 #[.agg #[.int .i64 K, .bool B, .int .i64 0, .string ⟨#[]⟩, .string ⟨#[]⟩, .slice none 0 0], .agg #[.int .i64 K, .bool B, .int .i64 0, .string ⟨#[]⟩, .string ⟨#[]⟩, .slice none 0 0]] W fun e w' => e = .returned (.bool true) ∧ Below W.heap.size W w' := fun W => by
            have := sameZAll (.mk K B 0 ⟨#[]⟩ ⟨#[]⟩ []) W K B 0 ⟨#[]⟩ ⟨#[]⟩ [] none 0 (.mk K B 0 ⟨#[]⟩ ⟨#[]⟩ []) K B 0 ⟨#[]⟩ ⟨#[]⟩ [] none 0 rfl rfl (by decide) (lHeldNull W) (lHeldNull W)
            rw [sameP_refl] at this
            exact this
          have HSM := Lib.hid hsm
          have hne : (e9 != e9) = false := by simp
          clear hb6 hb7 hsm
          go_upto_region 13 with (go_at_call 6; (with_reducible refine (HB6.out _).mono ?_); rintro e w5 ⟨rfl, hb5⟩; have HX5 := Lib.hid hb5; clear hb5)
          obtain ⟨C0, hC0⟩ : ∃ C0, C0 = w5.alloc (.cells #[.int .i64 K, .bool B, .int .i64 0, .string ⟨#[]⟩, .string ⟨#[]⟩, .slice none 0 0] 26) := ⟨_, rfl⟩
          obtain ⟨ec, hec⟩ : ∃ ec, ec = w5.heap.size := ⟨_, rfl⟩
          rw [← hC0, ← hec]
          have JC : Below w.heap.size w C0 := by rw [hC0]; exact (below_any J HX5.out J.size).alloc (below_any J HX5.out J.size).size _
          have S7 : Six C0 ec K B 0 ⟨#[]⟩ ⟨#[]⟩ none 0 0 := by rw [hC0, hec]; exact six_new _ rfl
          clear hC0 hec HX5
          go_upto_region 14 with (go_at_call 7; (with_reducible refine (HB7.out _).mono ?_); rintro e w6 ⟨rfl, hb6⟩; have HX6 := Lib.hid hb6; clear hb6)
          obtain ⟨D0, hD0⟩ : ∃ D0, D0 = w6.alloc (.cells #[.int .i64 K, .bool B, .int .i64 0, .string ⟨#[]⟩, .string ⟨#[]⟩, .slice none 0 0] 26) := ⟨_, rfl⟩
          obtain ⟨ed, hed⟩ : ∃ ed, ed = w6.heap.size := ⟨_, rfl⟩
          rw [← hD0, ← hed]
          have bcd : Below C0.heap.size C0 D0 := by rw [hD0]; exact HX6.out.alloc HX6.out.size _
          have S9 : Six D0 ed K B 0 ⟨#[]⟩ ⟨#[]⟩ none 0 0 := by rw [hD0, hed]; exact six_new _ rfl
          replace S7 := S7.below bcd
          have JD := below_any JC bcd JC.size
          clear hD0 hed HX6 bcd
          go_wp2_with (first
            | ((with_reducible refine wpList_load6g (.tmp 9) ec S7 ?_ ?_ ?_ ?_); rfl; rfl; rfl)
            | ((with_reducible refine wpList_load6g (.tmp 11) ed S9 ?_ ?_ ?_ ?_); rfl; rfl; rfl)
            | (go_at_call 8; (with_reducible refine (HSM.out _).mono ?_); rintro e w7 ⟨rfl, hb7⟩; replace JD := below_any JD hb7 JD.size; clear hb7))
          go_roundg (8 - (o + 1))
          case measure => omega
          case rel => exact ⟨o + 1, by omega, by go_num, JD⟩
        · go_wp2_with (go_at_call 9; (with_reducible refine (wakesAt _).mono ?_); rintro e w' ⟨rfl, hb⟩; replace J := below_any J hb J.size)
          go_ret
          exact ⟨rfl, J⟩

set_option maxRecDepth 200000 in
set_option maxHeartbeats 40000000 in
theorem ofNone (p : Option Addr) (cap : Nat) (lang : Int) (w : World) :
    Calls Tryz.prog 3 #[.agg #[.slice p 0 cap, .int .i64 lang]] w fun e w' => e = .returned (.bool true) ∧ Below w.heap.size w w' := by
  have I0 := LInv.start w (.slice p 0 cap) (.int .i64 lang)
  go_enter Tryz.func3, Tryz.ntmps3
  go_wp2_with fail
  go_loopg [3] 0 (fun gg s3 wr => s3 = .int .i64 0 ∧ gg = 0 ∧ LInv w (.slice p 0 cap) (.int .i64 lang) wr)
  case atStart => exact ⟨rfl, rfl, I0⟩
  case round =>
    clear I0
    obtain ⟨rfl, _, I⟩ := hrel
    have hp := I.cell
    go_wp2_with fail
    have J0 := I.bel
    clear I hp
    go_loopg [8] 8 (fun gg s8 wr => ∃ o : Nat, o + gg = 8 ∧ s8 = .int .i64 ((o : Int) - 2) ∧ Below w.heap.size w wr)
    case atStart => exact ⟨0, by omega, rfl, J0⟩
    case round =>
      clear J0
      obtain ⟨o, hog, rfl, J⟩ := hrel
      by_cases h6 : (o : Int) - 2 < 6
      · obtain ⟨K, B, e9, hb6, hb7⟩ := backBoth ((o : Int) - 2) (by omega) (by omega)
        have HB6 := Lib.hid hb6
        have HB7 := Lib.hid hb7
        have hsm : ∀ W, Calls Tryz.prog 8 #[.agg #[.int .i64 K, .bool B, .int .i64 0, .string ⟨#[]⟩, .string ⟨#[]⟩, .slice none 0 0], .agg #[.int .i64 K, .bool B, .int .i64 0, .string ⟨#[]⟩, .string ⟨#[]⟩, .slice none 0 0]] W fun e w' => e = .returned (.bool true) ∧ Below W.heap.size W w' := fun W => by
          have := sameZAll (.mk K B 0 ⟨#[]⟩ ⟨#[]⟩ []) W K B 0 ⟨#[]⟩ ⟨#[]⟩ [] none 0 (.mk K B 0 ⟨#[]⟩ ⟨#[]⟩ []) K B 0 ⟨#[]⟩ ⟨#[]⟩ [] none 0 rfl rfl (by decide) (lHeldNull W) (lHeldNull W)
          rw [sameP_refl] at this
          exact this
        have HSM := Lib.hid hsm
        have hne : (e9 != e9) = false := by simp
        clear hb6 hb7 hsm
        go_upto_region 13 with (go_at_call 6; (with_reducible refine (HB6.out _).mono ?_); rintro e w5 ⟨rfl, hb5⟩; have HX5 := Lib.hid hb5; clear hb5)
        obtain ⟨C0, hC0⟩ : ∃ C0, C0 = w5.alloc (.cells #[.int .i64 K, .bool B, .int .i64 0, .string ⟨#[]⟩, .string ⟨#[]⟩, .slice none 0 0] 26) := ⟨_, rfl⟩
        obtain ⟨ec, hec⟩ : ∃ ec, ec = w5.heap.size := ⟨_, rfl⟩
        rw [← hC0, ← hec]
        have JC : Below w.heap.size w C0 := by rw [hC0]; exact (below_any J HX5.out J.size).alloc (below_any J HX5.out J.size).size _
        have S7 : Six C0 ec K B 0 ⟨#[]⟩ ⟨#[]⟩ none 0 0 := by rw [hC0, hec]; exact six_new _ rfl
        clear hC0 hec HX5
        go_upto_region 14 with (go_at_call 7; (with_reducible refine (HB7.out _).mono ?_); rintro e w6 ⟨rfl, hb6⟩; have HX6 := Lib.hid hb6; clear hb6)
        obtain ⟨D0, hD0⟩ : ∃ D0, D0 = w6.alloc (.cells #[.int .i64 K, .bool B, .int .i64 0, .string ⟨#[]⟩, .string ⟨#[]⟩, .slice none 0 0] 26) := ⟨_, rfl⟩
        obtain ⟨ed, hed⟩ : ∃ ed, ed = w6.heap.size := ⟨_, rfl⟩
        rw [← hD0, ← hed]
        have bcd : Below C0.heap.size C0 D0 := by rw [hD0]; exact HX6.out.alloc HX6.out.size _
        have S9 : Six D0 ed K B 0 ⟨#[]⟩ ⟨#[]⟩ none 0 0 := by rw [hD0, hed]; exact six_new _ rfl
        replace S7 := S7.below bcd
        have JD := below_any JC bcd JC.size
        clear hD0 hed HX6 bcd
        go_wp2_with (first
          | ((with_reducible refine wpList_load6g (.tmp 9) ec S7 ?_ ?_ ?_ ?_); rfl; rfl; rfl)
          | ((with_reducible refine wpList_load6g (.tmp 11) ed S9 ?_ ?_ ?_ ?_); rfl; rfl; rfl)
          | (go_at_call 8; (with_reducible refine (HSM.out _).mono ?_); rintro e w7 ⟨rfl, hb7⟩; replace JD := below_any JD hb7 JD.size; clear hb7))
        go_roundg (8 - (o + 1))
        case measure => omega
        case rel => exact ⟨o + 1, by omega, by go_num, JD⟩
      · go_wp2_with (go_at_call 9; (with_reducible refine (wakesAt _).mono ?_); rintro e w' ⟨rfl, hb⟩; replace J := below_any J hb J.size)
        go_ret
        exact ⟨rfl, J⟩
theorem ofAny (l : List Val) (L : Value) (lang : Int) (w : World) (hG : Gd w) (hT : Tab w) (hl : Held w L l) (hn : l.length ≤ 2097152) :
    Calls Tryz.prog 3 #[.agg #[L, .int .i64 lang]] w fun e w' => e = .returned (.bool true) ∧ Below w.heap.size w w' := by
  obtain ⟨p, cap, rfl⟩ := held_slice hl
  cases l with
  | nil => exact ofNone p cap lang w
  | cons v r =>
    obtain ⟨g, off, rfl, hh⟩ := hl.form
    exact ofSome (v :: r) g off cap lang w hG hT hh hn
end Go.Proofs.YtdnijfkiebpnpaaGreatDoor
