/- The law LogicAll, walked. -/
import Derived.Test.YtdnijfkiebpnpaaH1
namespace Go.Proofs.Ytdnijfkiebpnpaa
open Go.RowKit

theorem neq_of {a b : Int} (h : a = b) : (a != b) = false := by simp [h]
theorem enters16 : ∀ args w, (callFunc 16 args).run Try.prog w = .ok (.enter 16 args) w := enters_of Try.func16 (by kernel_rfl) rfl
theorem hmf (fn : Fn) (first cap : Array Value) (w : World) : (Instr.makeFunc fn first cap).run Try.prog w = .ok (.func fn first cap) w := rfl

/-- All, as the law asks it. -/
theorem allAsk (pb qb b off n cap : Nat) (Z : Nat → Int) (N : Nat) (w : World) (hN : N ≤ qb) (hbN : b < N) (hpq : pb ≠ qb) (hpN : N ≤ pb) (hn : n ≤ maxLen)
    (hpc : w.heap[pb]? = some (.cells #[.slice (some ⟨b, off, none⟩) n cap] 24)) (hqc : w.heap[qb]? = some (.cells #[.int .i64 0] 3)) (hel : Elems w b off n Z) :
    Calls Try.prog 17 #[.func (.func 16) #[] #[.pointer (some ⟨pb, 0, none⟩), .pointer (some ⟨qb, 0, none⟩)]] w fun e w' => e = .returned (.int .i64 (accA 1 (truths Z (min n 50)))) ∧
      w'.heap[qb]? = some (.cells #[.int .i64 (cnt (accA 1) 0 Z (min n 50))] 3) ∧ w'.heap[pb]? = some (.cells #[.slice (some ⟨b, off, none⟩) n cap] 24) ∧ Below N w w' := by
  have hp := heapLt hpc
  have hq := heapLt hqc
  refine (allAt 16 _ enters16 (truths Z (min n 50)) _ N w (by omega) (fun pre A B h k => ⟨(k.block _ hq).trans h.1, (k.block _ hp).trans h.2⟩) (countSeq pb qb b off n cap Z N w.heap.size w hN hq hp (by omega) hpq (by omega) hn (Nat.le_refl _) hpc hqc hel)).mono ?_
  rintro e w' ⟨pre, rfl, ⟨h1, h2⟩, hb, hend⟩
  obtain ⟨e1, e2⟩ := ends_says absA hend
  rw [e2] at h1
  exact ⟨by rw [e1], h1, h2, hb⟩
theorem anyAsk (pb qb b off n cap : Nat) (Z : Nat → Int) (N : Nat) (w : World) (hN : N ≤ qb) (hbN : b < N) (hpq : pb ≠ qb) (hpN : N ≤ pb) (hn : n ≤ maxLen)
    (hpc : w.heap[pb]? = some (.cells #[.slice (some ⟨b, off, none⟩) n cap] 24)) (hqc : w.heap[qb]? = some (.cells #[.int .i64 0] 3)) (hel : Elems w b off n Z) :
    Calls Try.prog 18 #[.func (.func 16) #[] #[.pointer (some ⟨pb, 0, none⟩), .pointer (some ⟨qb, 0, none⟩)]] w fun e w' => e = .returned (.int .i64 (accO 0 (truths Z (min n 50)))) ∧
      w'.heap[qb]? = some (.cells #[.int .i64 (cnt (accO 0) 1 Z (min n 50))] 3) ∧ w'.heap[pb]? = some (.cells #[.slice (some ⟨b, off, none⟩) n cap] 24) ∧ Below N w w' := by
  have hp := heapLt hpc
  have hq := heapLt hqc
  refine (anyAt 16 _ enters16 (truths Z (min n 50)) _ N w (by omega) (fun pre A B h k => ⟨(k.block _ hq).trans h.1, (k.block _ hp).trans h.2⟩) (countSeq pb qb b off n cap Z N w.heap.size w hN hq hp (by omega) hpq (by omega) hn (Nat.le_refl _) hpc hqc hel)).mono ?_
  rintro e w' ⟨pre, rfl, ⟨h1, h2⟩, hb, hend⟩
  obtain ⟨e1, e2⟩ := ends_says absO hend
  rw [e2] at h1
  exact ⟨by rw [e1], h1, h2, hb⟩
theorem accA_truths (Z : Nat → Int) (k : Nat) : accA 1 (truths Z (k + 1)) = andT (tr (accA 1 (truths Z k))) (tr (tr (Z k))) := by rw [truths_succ, accA_snoc]
theorem accO_truths (Z : Nat → Int) (k : Nat) : accO 0 (truths Z (k + 1)) = orT (tr (accO 0 (truths Z k))) (tr (tr (Z k))) := by rw [truths_succ, accO_snoc]

set_option maxRecDepth 20000 in
set_option maxHeartbeats 6400000 in
theorem allSome (b off n cap : Nat) (Z : Nat → Int) (w : World) (hS : Elems w b off n Z) (hn : n ≤ maxLen) (hbN : b < w.heap.size) :
    Calls Try.prog 5 #[.agg #[.slice (some ⟨b, off, none⟩) n cap]] w fun e w' => e = .returned (.bool true) ∧ Below w.heap.size w w' := by
  have HN := Lib.hid hn
  unfold maxLen at hn
  have HS := Lib.hid hS
  have hm := hmf
  obtain ⟨W0, hW0⟩ : ∃ W0, W0 = (w.alloc (.cells #[.slice (some ⟨b, off, none⟩) n cap] 24)).alloc (.cells #[.int .i64 0] 3) := ⟨_, rfl⟩
  have hb0 : Below w.heap.size w W0 := by rw [hW0]; exact (below1 w _).alloc (by simp) _
  have hp0 : W0.heap[w.heap.size]? = some (.cells #[.slice (some ⟨b, off, none⟩) n cap] 24) := by rw [hW0]; exact heapO _ (heapN _ _ rfl)
  have hq0 : W0.heap[w.heap.size + 1]? = some (.cells #[.int .i64 0] 3) := by rw [hW0]; exact heapN _ _ (by simp)
  obtain ⟨c11, c12⟩ := cellAt hp0
  have E0 : Elems W0 b off n Z := fun i hi => (hb0.cell (p := ⟨b, off + i, none⟩) hbN).trans (HS.out i hi)
  have HW0 := Lib.hid hW0
  have H0 := Lib.hid (And.intro hb0 (And.intro hp0 (And.intro hq0 E0)))
  clear hS hb0 hp0 hq0 hW0 E0
  go_enter Try.func5, Try.ntmps5
  go_wp2_with fail
  rw [← HW0.out]
  go_loopg [5, 6, 7, 8, 9] n (fun gg s5 s6 s7 s8 s9 wr => ∃ k : Nat, k ≤ min n 50 ∧ k + gg = n ∧ s5 = .int .i64 (accA 1 (truths Z k)) ∧ s6 = .int .i64 (accO 0 (truths Z k)) ∧ s7 = .int .i64 (cnt (accA 1) 0 Z k) ∧ s8 = .int .i64 (cnt (accO 0) 1 Z k) ∧ s9 = .int .i64 k ∧
    wr = W0 ∧ cnt (accA 1) 0 Z k ≤ k ∧ cnt (accO 0) 1 Z k ≤ k)
  case atStart => exact ⟨0, by omega, by omega, rfl, rfl, rfl, rfl, rfl, rfl, Nat.le_refl _, Nat.le_refl _⟩
  case round =>
    obtain ⟨k, hk, hkg, rfl, rfl, rfl, rfl, rfl, rfl, hcA, hcO⟩ := hrel
    by_cases hlt : (k : Int) < n
    · by_cases h50 : (k : Int) < 50
      · obtain ⟨z, hz⟩ : ∃ z, z = Z k := ⟨_, rfl⟩
        have ck : wr.cell? ⟨b, off + k, none⟩ = some (.int .i64 z) := by rw [hz]; exact H0.out.2.2.2 k (by omega)
        obtain ⟨va, hva⟩ : ∃ va, va = accA 1 (truths Z k) := ⟨_, rfl⟩
        obtain ⟨vo, hvo⟩ : ∃ vo, vo = accO 0 (truths Z k) := ⟨_, rfl⟩
        obtain ⟨na, hna⟩ : ∃ na, na = cnt (accA 1) 0 Z k := ⟨_, rfl⟩
        obtain ⟨no, hno⟩ : ∃ no, no = cnt (accO 0) 1 Z k := ⟨_, rfl⟩
        rw [← hna] at hcA
        rw [← hno] at hcO
        rw [← hva, ← hvo, ← hna, ← hno]
        have HA := Lib.hid (And.intro hz (And.intro hva (And.intro hvo (And.intro hna hno))))
        have hA1 : Hid (andT (tr va) (tr (tr z)) = accA 1 (truths Z (k + 1))) := Lib.hid (by rw [accA_truths, hva, hz])
        have hO1 : Hid (orT (tr vo) (tr (tr z)) = accO 0 (truths Z (k + 1))) := Lib.hid (by rw [accO_truths, hvo, hz])
        have f1 := fun W => rnotAt z W
        have f2 : ∀ W, Calls Try.prog 8 #[.int .i64 (notT (tr z))] W fun e w' => e = .returned (.int .i64 (tr z)) ∧ w' = W := fun W => by
          have := rnotAt (notT (tr z)) W
          rw [tr_not] at this
          have e : notT (notT (tr z)) = tr z := by rcases tr_cases z with h | h | h <;> rw [h] <;> rfl
          rwa [e] at this
        clear hz hva hvo hna hno
        by_cases ha : va = 0
        · by_cases ho : vo = 1
          · skip
            have q1 : (va != 0) = false := by simpa using ha
            have q2 : (vo != 1) = false := by simpa using ho
            have hna1 : cnt (accA 1) 0 Z (k + 1) = na := by rw [cnt_succ, ← HA.out.2.2.2.1, ← HA.out.2.1, if_pos ha, Nat.add_zero]
            have hno1 : cnt (accO 0) 1 Z (k + 1) = no := by rw [cnt_succ, ← HA.out.2.2.2.2, ← HA.out.2.2.1, if_pos ho, Nat.add_zero]
            have HB := Lib.hid (And.intro hna1 hno1)
            clear ha ho hna1 hno1
            go_wp2_with (first
              | (go_at_call 8; (with_reducible refine (f1 _).mono ?_); rintro e w' ⟨rfl, rfl⟩)
              | (go_at_call 8; (with_reducible refine (f2 _).mono ?_); rintro e w' ⟨rfl, rfl⟩)
              | (go_at_call 10; (with_reducible refine (randAt _ _ _).mono ?_); rintro e w' ⟨rfl, rfl⟩)
              | (go_at_call 12; (with_reducible refine (rorAt _ _ _).mono ?_); rintro e w' ⟨rfl, rfl⟩))
            go_roundg (gk - 1)
            case measure => omega
            case rel => exact ⟨k + 1, by omega, by omega, by rw [hA1.out], by rw [hO1.out], by rw [HB.out.1] <;> go_num, by rw [HB.out.2] <;> go_num, by go_num, rfl, by rw [HB.out.1]; omega, by rw [HB.out.2]; omega⟩
          · skip
            have q1 : (va != 0) = false := by simpa using ha
            have q2 : (vo != 1) = true := by simpa using ho
            have hna1 : cnt (accA 1) 0 Z (k + 1) = na := by rw [cnt_succ, ← HA.out.2.2.2.1, ← HA.out.2.1, if_pos ha, Nat.add_zero]
            have hno1 : cnt (accO 0) 1 Z (k + 1) = no + 1 := by rw [cnt_succ, ← HA.out.2.2.2.2, ← HA.out.2.2.1, if_neg ho]
            have HB := Lib.hid (And.intro hna1 hno1)
            clear ha ho hna1 hno1
            go_wp2_with (first
              | (go_at_call 8; (with_reducible refine (f1 _).mono ?_); rintro e w' ⟨rfl, rfl⟩)
              | (go_at_call 8; (with_reducible refine (f2 _).mono ?_); rintro e w' ⟨rfl, rfl⟩)
              | (go_at_call 10; (with_reducible refine (randAt _ _ _).mono ?_); rintro e w' ⟨rfl, rfl⟩)
              | (go_at_call 12; (with_reducible refine (rorAt _ _ _).mono ?_); rintro e w' ⟨rfl, rfl⟩))
            go_roundg (gk - 1)
            case measure => omega
            case rel => exact ⟨k + 1, by omega, by omega, by rw [hA1.out], by rw [hO1.out], by rw [HB.out.1] <;> go_num, by rw [HB.out.2] <;> go_num, by go_num, rfl, by rw [HB.out.1]; omega, by rw [HB.out.2]; omega⟩
        · by_cases ho : vo = 1
          · skip
            have q1 : (va != 0) = true := by simpa using ha
            have q2 : (vo != 1) = false := by simpa using ho
            have hna1 : cnt (accA 1) 0 Z (k + 1) = na + 1 := by rw [cnt_succ, ← HA.out.2.2.2.1, ← HA.out.2.1, if_neg ha]
            have hno1 : cnt (accO 0) 1 Z (k + 1) = no := by rw [cnt_succ, ← HA.out.2.2.2.2, ← HA.out.2.2.1, if_pos ho, Nat.add_zero]
            have HB := Lib.hid (And.intro hna1 hno1)
            clear ha ho hna1 hno1
            go_wp2_with (first
              | (go_at_call 8; (with_reducible refine (f1 _).mono ?_); rintro e w' ⟨rfl, rfl⟩)
              | (go_at_call 8; (with_reducible refine (f2 _).mono ?_); rintro e w' ⟨rfl, rfl⟩)
              | (go_at_call 10; (with_reducible refine (randAt _ _ _).mono ?_); rintro e w' ⟨rfl, rfl⟩)
              | (go_at_call 12; (with_reducible refine (rorAt _ _ _).mono ?_); rintro e w' ⟨rfl, rfl⟩))
            go_roundg (gk - 1)
            case measure => omega
            case rel => exact ⟨k + 1, by omega, by omega, by rw [hA1.out], by rw [hO1.out], by rw [HB.out.1] <;> go_num, by rw [HB.out.2] <;> go_num, by go_num, rfl, by rw [HB.out.1]; omega, by rw [HB.out.2]; omega⟩
          · skip
            have q1 : (va != 0) = true := by simpa using ha
            have q2 : (vo != 1) = true := by simpa using ho
            have hna1 : cnt (accA 1) 0 Z (k + 1) = na + 1 := by rw [cnt_succ, ← HA.out.2.2.2.1, ← HA.out.2.1, if_neg ha]
            have hno1 : cnt (accO 0) 1 Z (k + 1) = no + 1 := by rw [cnt_succ, ← HA.out.2.2.2.2, ← HA.out.2.2.1, if_neg ho]
            have HB := Lib.hid (And.intro hna1 hno1)
            clear ha ho hna1 hno1
            go_wp2_with (first
              | (go_at_call 8; (with_reducible refine (f1 _).mono ?_); rintro e w' ⟨rfl, rfl⟩)
              | (go_at_call 8; (with_reducible refine (f2 _).mono ?_); rintro e w' ⟨rfl, rfl⟩)
              | (go_at_call 10; (with_reducible refine (randAt _ _ _).mono ?_); rintro e w' ⟨rfl, rfl⟩)
              | (go_at_call 12; (with_reducible refine (rorAt _ _ _).mono ?_); rintro e w' ⟨rfl, rfl⟩))
            go_roundg (gk - 1)
            case measure => omega
            case rel => exact ⟨k + 1, by omega, by omega, by rw [hA1.out], by rw [hO1.out], by rw [HB.out.1] <;> go_num, by rw [HB.out.2] <;> go_num, by go_num, rfl, by rw [HB.out.1]; omega, by rw [HB.out.2]; omega⟩
      · skip
        have hkm : k = min n 50 := by omega
        obtain ⟨va, hva⟩ : ∃ va, va = accA 1 (truths Z k) := ⟨_, rfl⟩
        obtain ⟨vo, hvo⟩ : ∃ vo, vo = accO 0 (truths Z k) := ⟨_, rfl⟩
        obtain ⟨na, hna⟩ : ∃ na, na = cnt (accA 1) 0 Z k := ⟨_, rfl⟩
        obtain ⟨no, hno⟩ : ∃ no, no = cnt (accO 0) 1 Z k := ⟨_, rfl⟩
        rw [← hna] at hcA
        rw [← hno] at hcO
        rw [← hva, ← hvo, ← hna, ← hno]
        have hc1 := allAsk w.heap.size (w.heap.size + 1) b off n cap Z w.heap.size wr (by omega) hbN (by omega) (Nat.le_refl _) HN.out H0.out.2.1 H0.out.2.2.1 H0.out.2.2.2
        rw [← hkm, ← hva, ← hna] at hc1
        have hc2 : ∀ w2, Below w.heap.size w w2 → w2.heap[w.heap.size + 1]? = some (.cells #[.int .i64 0] 3) → w2.heap[w.heap.size]? = some (.cells #[.slice (some ⟨b, off, none⟩) n cap] 24) → _ := fun w2 h1 h2 h3 =>
          anyAsk w.heap.size (w.heap.size + 1) b off n cap Z w.heap.size w2 (by omega) hbN (by omega) (Nat.le_refl _) HN.out h3 h2 (fun i hi => (h1.cell (p := ⟨b, off + i, none⟩) hbN).trans (HS.out i hi))
        rw [← hkm, ← hvo, ← hno] at hc2
        have e1 := neq_of (rfl : va = va)
        have e2 := neq_of (rfl : (na : Int) = na)
        have e3 := neq_of (rfl : vo = vo)
        have e4 := neq_of (rfl : (no : Int) = no)
        have I := And.intro H0.out.1 H0.out.1.size
        have HC2 := Lib.hid hc2
        clear hva hvo hna hno hc2 hkm
        go_wp2_with (first
          | (go_at_call 17; (with_reducible refine hc1.mono ?_); rintro e w1 ⟨rfl, hq1, hp1, hb1⟩; replace I := And.intro (I.1.trans hb1) (Nat.le_trans I.2 hb1.size); obtain ⟨d1, d2⟩ := cellAt hq1; have hc3 := HC2.out _ (I.1.setCell (p := ⟨w.heap.size + 1, 0, none⟩) (show w.heap.size ≤ w.heap.size + 1 by omega) _) (heapSet hq1 (.int .i64 0)) ((Below.heap_setCell _ _ _ _ (show w.heap.size ≠ w.heap.size + 1 by omega)).trans hp1))
          | (go_at_call 18; (with_reducible refine hc3.mono ?_); rintro e w3 ⟨rfl, hq3, hp3, hb3⟩; replace I := And.intro ((I.1.setCell (p := ⟨w.heap.size + 1, 0, none⟩) (show w.heap.size ≤ w.heap.size + 1 by omega) (.int .i64 0)).trans hb3) (Nat.le_trans I.2 (Nat.le_trans (by simp [World.setCell]) hb3.size)); obtain ⟨d3, d4⟩ := cellAt hq3)
          | (go_at_call 17; (with_reducible refine (allNil _).mono ?_); rintro e w4 ⟨rfl, hb4⟩; replace I := below_then I.1 I.2 hb4)
          | (go_at_call 18; (with_reducible refine (anyNil _).mono ?_); rintro e w5 ⟨rfl, hb5⟩; replace I := below_then I.1 I.2 hb5)
          | (go_at_call 15; (with_reducible refine (wakesAt _).mono ?_); rintro e w6 ⟨rfl, hb6⟩; replace I := below_then I.1 I.2 hb6))
        go_ret
        exact ⟨rfl, I.1⟩
    · skip
      have hkm : k = min n 50 := by omega
      obtain ⟨va, hva⟩ : ∃ va, va = accA 1 (truths Z k) := ⟨_, rfl⟩
      obtain ⟨vo, hvo⟩ : ∃ vo, vo = accO 0 (truths Z k) := ⟨_, rfl⟩
      obtain ⟨na, hna⟩ : ∃ na, na = cnt (accA 1) 0 Z k := ⟨_, rfl⟩
      obtain ⟨no, hno⟩ : ∃ no, no = cnt (accO 0) 1 Z k := ⟨_, rfl⟩
      rw [← hna] at hcA
      rw [← hno] at hcO
      rw [← hva, ← hvo, ← hna, ← hno]
      have hc1 := allAsk w.heap.size (w.heap.size + 1) b off n cap Z w.heap.size wr (by omega) hbN (by omega) (Nat.le_refl _) HN.out H0.out.2.1 H0.out.2.2.1 H0.out.2.2.2
      rw [← hkm, ← hva, ← hna] at hc1
      have hc2 : ∀ w2, Below w.heap.size w w2 → w2.heap[w.heap.size + 1]? = some (.cells #[.int .i64 0] 3) → w2.heap[w.heap.size]? = some (.cells #[.slice (some ⟨b, off, none⟩) n cap] 24) → _ := fun w2 h1 h2 h3 =>
        anyAsk w.heap.size (w.heap.size + 1) b off n cap Z w.heap.size w2 (by omega) hbN (by omega) (Nat.le_refl _) HN.out h3 h2 (fun i hi => (h1.cell (p := ⟨b, off + i, none⟩) hbN).trans (HS.out i hi))
      rw [← hkm, ← hvo, ← hno] at hc2
      have e1 := neq_of (rfl : va = va)
      have e2 := neq_of (rfl : (na : Int) = na)
      have e3 := neq_of (rfl : vo = vo)
      have e4 := neq_of (rfl : (no : Int) = no)
      have I := And.intro H0.out.1 H0.out.1.size
      have HC2 := Lib.hid hc2
      clear hva hvo hna hno hc2 hkm
      go_wp2_with (first
        | (go_at_call 17; (with_reducible refine hc1.mono ?_); rintro e w1 ⟨rfl, hq1, hp1, hb1⟩; replace I := And.intro (I.1.trans hb1) (Nat.le_trans I.2 hb1.size); obtain ⟨d1, d2⟩ := cellAt hq1; have hc3 := HC2.out _ (I.1.setCell (p := ⟨w.heap.size + 1, 0, none⟩) (show w.heap.size ≤ w.heap.size + 1 by omega) _) (heapSet hq1 (.int .i64 0)) ((Below.heap_setCell _ _ _ _ (show w.heap.size ≠ w.heap.size + 1 by omega)).trans hp1))
        | (go_at_call 18; (with_reducible refine hc3.mono ?_); rintro e w3 ⟨rfl, hq3, hp3, hb3⟩; replace I := And.intro ((I.1.setCell (p := ⟨w.heap.size + 1, 0, none⟩) (show w.heap.size ≤ w.heap.size + 1 by omega) (.int .i64 0)).trans hb3) (Nat.le_trans I.2 (Nat.le_trans (by simp [World.setCell]) hb3.size)); obtain ⟨d3, d4⟩ := cellAt hq3)
        | (go_at_call 17; (with_reducible refine (allNil _).mono ?_); rintro e w4 ⟨rfl, hb4⟩; replace I := below_then I.1 I.2 hb4)
        | (go_at_call 18; (with_reducible refine (anyNil _).mono ?_); rintro e w5 ⟨rfl, hb5⟩; replace I := below_then I.1 I.2 hb5)
        | (go_at_call 15; (with_reducible refine (wakesAt _).mono ?_); rintro e w6 ⟨rfl, hb6⟩; replace I := below_then I.1 I.2 hb6))
      go_ret
      exact ⟨rfl, I.1⟩
end Go.Proofs.Ytdnijfkiebpnpaa
