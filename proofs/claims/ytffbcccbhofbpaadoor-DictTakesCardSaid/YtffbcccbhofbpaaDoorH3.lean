/- The law of takes, walked. -/
import Derived.Test.YtffbcccbhofbpaaDoorH2
import Derived.Deep.LoopGhost
import Derived.Deep.Cut
import Derived.Deep.CutBlock
import Derived.Deep.DeepCutAuto
namespace Go.Proofs.YtffbcccbhofbpaaDoor
open Go.RowKit

theorem info3b : (Tryd.prog.info? 3).map (fun i => (i.zero, i.size, i.bytes)) = some (some (.int .i64 0), 1, 8) := by kernel_rfl
set_option maxRecDepth 20000 in
set_option maxHeartbeats 12800000 in
theorem takesWalk (w : World) (p : Option Addr) (n cap : Nat) (C : Nat → Int × Bool) (hC : CellL w p n C) (hn : n ≤ maxLen) (va vt : Value) :
    Calls Tryd.prog 6 #[.agg #[.slice p n cap, va, vt]] w fun e w' => e = .returned (.bool true) ∧ Below w.heap.size w w' := by
  obtain ⟨i0, hi, hz0, hz1, hz2⟩ := info_parts info3b
  obtain ⟨W0, hW0⟩ : ∃ W0, W0 = w.alloc (.cells #[.slice p n cap, va, vt] 50) := ⟨_, rfl⟩
  have hb0 : Below w.heap.size w W0 := by rw [hW0]; exact below1 _ _
  have hx : W0.heap[w.heap.size]? = some (.cells #[.slice p n cap, va, vt] 50) := by rw [hW0]; exact heap_new _ _ rfl
  have hwl : w.heap.size < W0.heap.size := lt_of_heap hx
  replace hC := hC.below hb0
  have HN := Lib.hid hn
  have hn2 : n ≤ 9223372036854775807 := by unfold maxLen at hn; omega
  obtain ⟨M, hM⟩ : ∃ M, M = min n 200 := ⟨_, rfl⟩
  have hMn : M ≤ n := by omega
  have hM3 : M ≤ 200 := by omega
  have hMM : M = n ∨ M = 200 := by omega
  have HMM := Lib.hid hMM
  have H0 := Lib.hid hW0
  have exT : (⟨#[120]⟩ : ByteArray) = xT := rfl
  have eyT : (⟨#[121]⟩ : ByteArray) = yT := rfl
  have HXT := Lib.hid exT
  have HYT := Lib.hid eyT
  clear hW0 hM hMM hn exT eyT
  go_enter Tryd.func6, Tryd.ntmps6
  rw [HXT.out, HYT.out]
  go_upto_block 0 with (first
    | (go_at_call 31; rw [← H0.out]; (with_reducible refine (newColStr _).mono ?_); rintro e w1 ⟨ga, F1, rfl, hb1, a1, m1⟩)
    | (go_at_call 32; (with_reducible refine (newColPair _).mono ?_); rintro e w2 ⟨gb, F2, rfl, hb2, b2, m2⟩))
  have K1 : PI W0 w2 ga gb (colS C 0) (colP C 0) F1 F2 := ⟨a1.below hb2, b2, fun i q r => by have h1 := a1.lt q; have h2 := m2 i r; omega, m1, fun i q => Nat.le_trans hb1.size (m2 i q), below_any hb1 hb2 hb1.size⟩
  clear a1 b2 m1 m2 hb1 hb2
  go_cut [5] (fun s5 wx => s5 = .int .i64 M ∧ ∃ Fa Fb, PI W0 wx ga gb (colS C M) (colP C M) Fa Fb)
  case first =>
    go_wp2_with fail
    go_loopw [5, 6] (fun s5 s6 wr => ∃ (k : Nat) (Fa Fb : Nat → Prop), s6 = .int .i64 k ∧ s5 = .int .i64 k ∧ k ≤ M ∧ PI W0 wr ga gb (colS C k) (colP C k) Fa Fb) (fun _ i _ => 200 - (intOf i).toNat)
    case atStart => exact ⟨0, F1, F2, rfl, rfl, by omega, K1⟩
    case round =>
      clear K1
      obtain ⟨k, Fa, Fb, rfl, rfl, hk, K⟩ := hrel
      have x0 : wr.cell? ⟨w.heap.size, 0, none⟩ = some (.slice p n cap) := cell_of ((K.bel.block _ hwl).trans hx) 0 rfl
      by_cases hlt : k < M
      · have d2 : decide ((k : Int) < 200) = true := by simp; omega
        have hkn : k < n := by omega
        obtain ⟨b, o, hix, hc, hd⟩ := (hC.below K.bel).at (cap := cap) HN.out k hkn
        have HSP := Lib.hid (colP_succ C k)
        have HSS := Lib.hid (colS_succ C k)
        have hlp := colP_length C k
        have hls := colS_length C k
        generalize C k = y at *
        obtain ⟨cn, cb⟩ := y
        simp only at hc hd
        cases cb with
        | true =>
          have hp := putNullStr wr ga _ Fa K.a (by rw [hls]; omega)
          clear hC
          go_wp2_with (first
            | (go_at_call 33; (with_reducible refine hp.mono ?_); rintro e w5 ⟨rfl, F5, c5, t5⟩
               have K5 := K.turnA t5 c5
               have hq := putNullPair w5 gb _ Fb K5.b (by rw [hlp]; omega))
            | (go_at_call 34; (with_reducible refine hq.mono ?_); rintro e w6 ⟨rfl, F6, c6, t6⟩
               have K6 := K5.turnB t6 c6))
          go_roundw
          case rel => exact ⟨k + 1, F5, F6, by go_num, by go_num, by omega, by rw [HSP.out, HSS.out]; simpa using K6⟩
          case measure => simp [intOf]; omega
        | false =>
          have hp := putStr wr ga _ Fa K.a (by rw [hls]; omega) xT (by decide) (by decide)
          clear hC
          go_wp2_with (first
            | (go_at_call 35; (with_reducible refine hp.mono ?_); rintro e w5 ⟨rfl, F5, c5, t5⟩
               have K5 := K.turnA t5 c5
               have hq := putPair w5 gb _ Fb K5.b (by rw [hlp]; omega) ((k : Int), yT))
            | (go_at_call 36; (with_reducible refine hq.mono ?_); rintro e w6 ⟨rfl, F6, c6, t6⟩
               have K6 := K5.turnB t6 c6))
          go_roundw
          case rel => exact ⟨k + 1, F5, F6, by go_num, by go_num, by omega, by rw [HSP.out, HSS.out]; simpa using K6⟩
          case measure => simp [intOf]; omega
      · obtain rfl : k = M := by omega
        by_cases hkn : k < n
        case' pos =>
          have dA : decide (k < n) = true := by simpa using hkn
          have dB : decide ((k : Int) < 200) = false := by have := HMM.out; simp; omega
        case' neg =>
          have dA : decide (k < n) = false := by simpa using hkn
          have dB : True := trivial
        all_goals
          clear hkn hlt
          go_wp2_with fail
          go_meet
          case rel => exact ⟨rfl, Fa, Fb, K⟩
  case rest =>
    clear K1
    obtain ⟨rfl, Fa, Fb, K⟩ := hcut
    clear hC
    go_wp2_with fail
    go_loopw [7, 8, 9] (fun s7 s8 s9 wr => ∃ k : Nat, s9 = .int .i64 k ∧ k ≤ M ∧ RI wc.heap.size wr s7 (List.range k) ∧ RI wc.heap.size wr s8 (od k) ∧ (∀ i, s7.ownBlock = some i → s8.ownBlock ≠ some i) ∧ wc.heap.size ≤ wr.heap.size ∧ Below wc.heap.size wc wr) (fun _ _ i _ => 200 - (intOf i).toNat)
    case atStart => exact ⟨0, rfl, by omega, RI.nil _ _, RI.nil _ _, fun i q => by simp [Value.ownBlock] at q, Nat.le_refl _, Below.refl _ _⟩
    case round =>
      obtain ⟨k, rfl, hk, R7, R8, ap, hS, hB⟩ := hrel
      have hol := od_len k
      have hrl : (List.range k).length ≤ k := by simp
      have hOS := od_succ k
      have hRS := range_snoc k
      generalize hA7 : List.range k = A7 at *
      generalize hA8 : od k = A8 at *
      have HA7 := Lib.hid hA7
      have HA8 := Lib.hid hA8
      have HOS := Lib.hid hOS
      have HRS := Lib.hid hRS
      obtain ⟨p7, c7, rfl⟩ := row_slice R7.row
      obtain ⟨p8, c8, rfl⟩ := row_slice R8.row
      clear hA7 hA8 hOS hRS
      by_cases hlt : k < M
      · have r7 := R7.row
        go_wp2_with (at_builtin; refine Hid.out ?_)
        refine Lib.hid ?_
        refine wpList_append_own_at _ rfl _ _ 23 rfl 0 3 i0 (.int .i64 0) 1 8 Tryd.underlying23 hi hz0 hz1 hz2 rfl (by decide) _ _ _ rfl (r7.alloc _) ⟨wr.heap.size, 0, none⟩ 1 1 [.int .i64 (k : Int)] rfl rfl (cell_one_new _ _ _) ?_ ?_ ?_ ?_ ?_
        all_goals (try (first | (intro u hu; simp at hu; subst hu; rfl) | (unfold maxLen; simp; omega) | (simp; omega) | omega | (simp; done)))
        intro v7 w7 hr7 hg7 _ hat7
        obtain ⟨p9, c9, rfl⟩ := row_slice hr7
        obtain ⟨N7, ch7, ft7⟩ := R7.app hS (below1 wr _) hg7 hr7 hat7
        have R8' := R8.ch ch7 (fun i q e => ap i e q)
        have hS7 : wc.heap.size ≤ w7.heap.size := by have := ch7.size; omega
        have hB7 : Below wc.heap.size wc w7 := hB.trans (ch7.below hS R7.low)
        have ap7 : ∀ i, (Value.slice p9 (A7.length + 1) c9).ownBlock = some i → (Value.slice p8 A8.length c8).ownBlock ≠ some i := fun i q e => by
          rcases ft7 i q with h | h
          · exact ap i h e
          · have := row_lt R8.row e; omega
        by_cases hodd : k % 2 = 1
        · have d3 : ((k : Int) % 2 == 1) = true := by simp; omega
          have r8 := R8'.row
          have HOD := Lib.hid hodd
          clear hodd r7 hr7 hg7 hat7 R7 R8 hB hS
          go_wp2_with (at_builtin; refine Hid.out ?_)
          refine Lib.hid ?_
          refine wpList_append_own_at _ rfl _ _ 23 rfl 0 3 i0 (.int .i64 0) 1 8 Tryd.underlying23 hi hz0 hz1 hz2 rfl (by decide) _ _ _ rfl (r8.alloc _) ⟨w7.heap.size, 0, none⟩ 1 1 [.int .i64 (k : Int)] rfl rfl (cell_one_new _ _ _) ?_ ?_ ?_ ?_ ?_
          all_goals (try (first | (intro u hu; simp at hu; subst hu; rfl) | (unfold maxLen; simp; omega) | (simp; omega) | omega | (simp; done)))
          intro v8 w8 hr8 hg8 _ hat8
          obtain ⟨p10, c10, rfl⟩ := row_slice hr8
          obtain ⟨N8, ch8, ft8⟩ := R8'.app hS7 (below1 w7 _) hg8 hr8 hat8
          have N7' := N7.ch ch8 (fun i q e => ap7 i q e)
          have hS8 : wc.heap.size ≤ w8.heap.size := by have := ch8.size; omega
          have hB8 : Below wc.heap.size wc w8 := hB7.trans (ch8.below hS7 R8'.low)
          have ap8 : ∀ i, (Value.slice p9 (A7.length + 1) c9).ownBlock = some i → (Value.slice p10 (A8.length + 1) c10).ownBlock ≠ some i := fun i q e => by
            rcases ft8 i e with h | h
            · exact ap7 i q h
            · have hh := row_lt N7.row q; omega
          clear r8 hr8 hg8 hat8
          go_wp2_with fail
          go_roundw
          case rel => exact ⟨k + 1, by go_num, by omega, by rw [HRS.out]; exact N7', by rw [HOS.out, if_pos HOD.out]; exact N8, ap8, hS8, hB8⟩
          case measure => simp [intOf]; omega
        · have d3 : ((k : Int) % 2 == 1) = false := by simp; omega
          have HOD := Lib.hid hodd
          clear hodd r7 hr7 hg7 hat7 R7 R8 hB hS
          go_wp2_with fail
          go_roundw
          case rel => exact ⟨k + 1, by go_num, by omega, by rw [HRS.out]; exact N7, by rw [HOS.out, if_neg HOD.out]; exact R8', ap7, hS7, hB7⟩
          case measure => simp [intOf]; omega
      · obtain rfl : k = M := by omega
        have K2 : PI W0 wr ga gb (colS C k) (colP C k) Fa Fb := K.below hB
        have dA : decide (k < k) = false := by simp
        have hys := colP_length C k
        have hxs := colS_length C k
        have htk : tk (colP C k) (fun j => ((A7.getD j 0 : Nat) : Int)) A7.length = colP C k := by
          have h := tk_all (colP C k)
          rw [hys] at h
          rw [← HA7.out, List.length_range]; exact h
        have hok7 : ∀ i, i < A7.length → 0 ≤ ((A7.getD i 0 : Nat) : Int) ∧ ((A7.getD i 0 : Nat) : Int) < ((colP C k).length : Int) := fun i hi7 => by
          rw [← HA7.out] at hi7 ⊢
          rw [List.length_range] at hi7
          rw [range_get _ _ hi7, hys]; omega
        have hok8 : ∀ i, i < A8.length → 0 ≤ ((A8.getD i 0 : Nat) : Int) ∧ ((A8.getD i 0 : Nat) : Int) < ((colP C k).length : Int) := fun i hi8 => by
          rw [← HA8.out] at hi8 ⊢
          have := od_lt k i hi8
          rw [hys]; omega
        have HO8 := Lib.hid hok8
        have hT1 := takeYesPair wr gb _ Fb K2.b (by rw [hys]; omega) p7 A7.length c7 _ R7.intl (by omega) hok7
        rw [htk] at hT1
        have HNS := Lib.hid (colS_none C k)
        have hSM := fun i => colS_some C k i
        have HSM := Lib.hid hSM
        have hsz : ∀ i, (((colS C k).getD i none).getD ⟨#[]⟩).size ≤ 1 := fun i => by
          rw [List.getD_eq_getElem?_getD]
          unfold colS
          rw [List.getElem?_map]
          by_cases hi9 : i < k
          · rw [List.getElem?_range hi9]
            simp only [Option.map_some, Option.getD_some]
            cases (C i).2 <;> decide
          · rw [List.getElem?_eq_none (by simp; omega)]
            exact (by decide : ((none : Option ByteArray).getD ⟨#[]⟩).size ≤ 1)
        have HSZ := Lib.hid hsz
        have HYS := Lib.hid hys
        have HXS := Lib.hid hxs
        clear htk hok7 hok8 hSM hsz hys hxs K R7 ap hMn
        generalize colP C k = ys at *
        generalize colS C k = xs at *
        obtain ⟨NN, hNN⟩ : ∃ NN, NN = ((ys.map Option.isNone).filter id).length := ⟨_, rfl⟩
        have HNN := Lib.hid hNN
        clear hNN
        go_wp2_with (first
          | (go_at_call 37; (with_reducible refine hT1.mono ?_); rintro e w3 ⟨g3, F3, rfl, b3, k3, m3⟩
             have K3 := K2.below b3
             have R83 := R8.below b3
             have hT2 := takeYesPair w3 gb _ Fb K3.b (by rw [HYS.out]; omega) p8 A8.length c8 _ R83.intl (by omega) HO8.out
             clear hT1)
          | (go_at_call 37; (with_reducible refine hT2.mono ?_); rintro e w4 ⟨g4, F4, rfl, b4, k4, m4⟩
             have K4 := K3.below b4
             have R84 := R83.below b4
             have k34 := k3.below b4
             have q1 := lenPair w4 g3 _ F3 k34
             rw [HYS.out] at q1
             have q2 := nullsPair w4 g3 _ F3 k34 (by rw [HYS.out]; omega)
             have q3 := nullsPair w4 gb _ Fb K4.b (by rw [HYS.out]; omega)
             have q4 := nullsStr w4 ga _ Fa K4.a (by rw [HXS.out]; omega)
             rw [HNS.out] at q4
             rw [← HNN.out] at q2 q3 q4
             clear hT2 K2 K3 R8 R83 k3)
          | (go_at_call 38; (with_reducible refine q1.mono ?_); rintro e w5 ⟨rfl, rfl⟩)
          | (go_at_call 39; (with_reducible refine q2.mono ?_); rintro e w5 ⟨rfl, rfl⟩)
          | (go_at_call 39; (with_reducible refine q3.mono ?_); rintro e w5 ⟨rfl, rfl⟩)
          | (go_at_call 40; (with_reducible refine q4.mono ?_); rintro e w5 ⟨rfl, rfl⟩))
        clear q1 q2 q3 q4 k34 b3 m3
        have hL : A8.length ≤ 200 := by omega
        obtain ⟨wo, rfl⟩ : ∃ wo : World, wo = wr := ⟨_, rfl⟩
        go_loopw [14, 15] (fun s14 s15 wr => ∃ j : Nat, s15 = .int .i64 ((A8.length : Int) - 1 - j) ∧ j ≤ A8.length ∧ RI w4.heap.size wr s14 (ls A8.length j) ∧ w4.heap.size ≤ wr.heap.size ∧ Below w4.heap.size w4 wr) (fun _ i _ => ((intOf i) + 1).toNat)
        case atStart => exact ⟨0, by simp, by omega, RI.nil _ _, Nat.le_refl _, Below.refl _ _⟩
        case round =>
          obtain ⟨j, rfl, hj, R, hS, hB⟩ := hrel
          have hll := ls_length A8.length j
          have hlg := ls_succ A8.length j
          generalize hL9 : ls A8.length j = L9 at *
          have HL9 := Lib.hid hL9
          have HLG := Lib.hid hlg
          have HLL := Lib.hid hll
          have hll2 : L9.length ≤ 200 := by omega
          obtain ⟨p14, c14, rfl⟩ := row_slice R.row
          clear hL9 hlg hll
          by_cases hjl : j < A8.length
          · have d4 : decide ((0 : Int) ≤ (A8.length : Int) - 1 - j) = true := by simp; omega
            obtain ⟨x, hxx⟩ : ∃ x : Nat, x = A8.length - 1 - j := ⟨_, rfl⟩
            have hxi : (A8.length : Int) - 1 - j = x := by omega
            have hx2 : x ≤ 200 := by omega
            have HXX := Lib.hid hxx
            have HXI := Lib.hid hxi
            rw [hxi] at d4 ⊢
            have r14 := R.row
            clear hxx hxi
            go_wp2_with (at_builtin; refine Hid.out ?_)
            refine Lib.hid ?_
            refine wpList_append_own_at _ rfl _ _ 23 rfl 0 3 i0 (.int .i64 0) 1 8 Tryd.underlying23 hi hz0 hz1 hz2 rfl (by decide) _ _ _ rfl (r14.alloc _) ⟨wr.heap.size, 0, none⟩ 1 1 [.int .i64 (x : Int)] rfl rfl (cell_one_new _ _ _) ?_ ?_ ?_ ?_ ?_
            all_goals (try (first | (intro u hu; simp at hu; subst hu; rfl) | (unfold maxLen; simp; omega) | (simp; omega) | omega | (simp; done)))
            intro v6 w6 hr6 hg6 _ hat6
            obtain ⟨p15, c15, rfl⟩ := row_slice hr6
            obtain ⟨N6, ch6, ft6⟩ := R.app hS (below1 wr _) hg6 hr6 hat6
            have hS6 : w4.heap.size ≤ w6.heap.size := by have := ch6.size; omega
            have hB6 : Below w4.heap.size w4 w6 := hB.trans (ch6.below hS R.low)
            clear r14 hr6 hg6 hat6 R
            go_wp2_with fail
            go_roundw
            case rel => exact ⟨j + 1, by have h := HXI.out; rw [show ((A8.length : Int) - 1 - ((j + 1 : Nat) : Int)) = (x : Int) - 1 by omega], by omega, by rw [HLG.out, ← HXX.out]; exact N6, hS6, hB6⟩
            case measure =>
              show ((x : Int) - 1 + 1).toNat < ((x : Int) + 1).toNat
              omega
          · obtain rfl : j = A8.length := by omega
            have d4 : ((A8.length : Int) - 1 - (A8.length : Int)) = -1 := by omega
            rw [d4]
            have R89 := R84.below hB
            have K9 := K4.below hB
            have k49 := k4.below hB
            have hDl : (tk ys (fun j => ((A8.getD j 0 : Nat) : Int)) A8.length).length = A8.length := tk_length _ _ _
            have hDg : ∀ i, i < A8.length → (tk ys (fun j => ((A8.getD j 0 : Nat) : Int)) A8.length).getD i none = ys.getD (A8.getD i 0) none := fun i hi9 => by
              rw [List.getD_eq_getElem?_getD, tk_get _ _ _ _ hi9]; simp
            have HDG := Lib.hid hDg
            have HDL := Lib.hid hDl
            clear hDg hDl d4
            generalize tk ys (fun j => ((A8.getD j 0 : Nat) : Int)) A8.length = D at *
            have hok9 : ∀ i, i < L9.length → 0 ≤ ((L9.getD i 0 : Nat) : Int) ∧ ((L9.getD i 0 : Nat) : Int) < (D.length : Int) := fun i hi9 => by
              rw [HLL.out] at hi9
              rw [← HL9.out, ls_get _ _ hi9, HDL.out]; omega
            have hT3 := takeYesPair wr g4 D F4 k49 (by rw [HDL.out]; omega) p14 L9.length c14 _ R.intl (by omega) hok9
            have hEl : (tk D (fun j => ((L9.getD j 0 : Nat) : Int)) L9.length).length = A8.length := by rw [tk_length]; exact HLL.out
            have hEg : ∀ i, i < A8.length → (tk D (fun j => ((L9.getD j 0 : Nat) : Int)) L9.length)[i]? = some (ys.getD (A8.getD (A8.length - 1 - i) 0) none) := fun i hi9 => by
              rw [tk_get _ _ _ _ (by rw [HLL.out]; exact hi9), ← HL9.out, ls_get _ _ hi9, ← HDG.out _ (by omega)]; simp
            have HEG := Lib.hid hEg
            have HEL := Lib.hid hEl
            clear hEg hEl hok9
            generalize tk D (fun j => ((L9.getD j 0 : Nat) : Int)) L9.length = E at *
            go_wp2_with (first
              | (go_at_call 37; (with_reducible refine hT3.mono ?_); rintro e w5 ⟨g5, F5, rfl, b5, k5, m5⟩
                 have K5 := K9.below b5
                 have R85 := R89.below b5
                 have q5 := lenPair w5 g5 E F5 k5
                 rw [HEL.out] at q5
                 clear hT3 K9 R89 k49)
              | (go_at_call 38; (with_reducible refine q5.mono ?_); rintro e w6 ⟨rfl, rfl⟩))
            clear q5 m5
            obtain ⟨wp, rfl⟩ : ∃ wp : World, wp = wr := ⟨_, rfl⟩
            go_loopw [17] (fun s17 wr => ∃ j : Nat, s17 = .int .i64 j ∧ j ≤ A8.length ∧ Below w5.heap.size w5 wr) (fun i _ => A8.length - (intOf i).toNat)
            case atStart => exact ⟨0, rfl, by omega, Below.refl _ _⟩
            case round =>
              obtain ⟨j, rfl, hj, hB5⟩ := hrel
              have K6 := K5.below hB5
              have R86 := R85.below hB5
              have k6 := k5.below hB5
              by_cases hjl : j < A8.length
              · obtain ⟨o, ho⟩ : ∃ o, o = A8.getD (A8.length - 1 - j) 0 := ⟨_, rfl⟩
                have hqi : (A8.length : Int) - 1 - j = ((A8.length - 1 - j : Nat) : Int) := by omega
                obtain ⟨b, off, hix, hc⟩ := R86.intl.at (cap := c8) (by unfold maxLen; omega) (A8.length - 1 - j) (by omega)
                rw [← ho] at hc
                rw [← hqi] at hix
                have hoM : o < ys.length := by
                  have h := (HO8.out (A8.length - 1 - j) (by omega)).2
                  rw [← ho] at h; omega
                have hox : o < xs.length := by rw [HXS.out]; rw [HYS.out] at hoM; exact hoM
                have hE := HEG.out j hjl
                rw [← ho] at hE
                have hsm : (xs.getD o none).isSome = (ys.getD o none).isSome := HSM.out o (by rw [HYS.out] at hoM; exact hoM)
                have hs1 : ((xs.getD o none).getD ⟨#[]⟩).size ≤ 1 := HSZ.out o
                have u1 := atYesPair wr g5 E F5 k6 (by rw [HEL.out]; omega) j _ hE
                have u2 : ∀ W, Below wr.heap.size wr W → Calls Tryd.prog 41 #[.pointer (some ⟨gb, 0, none⟩), .int .i64 o] W fun e w' => e = .returned (.tuple #[.agg #[.int .i64 (pr (ys.getD o none)).1, .string (pr (ys.getD o none)).2], .bool (ys.getD o none).isSome, .int .i64 0]) ∧ Below W.heap.size W w' := fun W hW =>
                  atYesPair W gb ys Fb (K6.below hW).b (by rw [HYS.out]; omega) o _ (getD_get ys o hoM)
                have u3 : ∀ W, Below wr.heap.size wr W → Calls Tryd.prog 42 #[.pointer (some ⟨ga, 0, none⟩), .int .i64 o] W fun e w' => e = .returned (.tuple #[.string ((xs.getD o none).getD ⟨#[]⟩), .bool (ys.getD o none).isSome, .int .i64 0]) ∧ Below W.heap.size W w' := fun W hW => by
                  have h := atYesStr W ga xs Fa (K6.below hW).a (by rw [HXS.out]; omega) o _ (getD_get xs o hox) (by unfold maxLen; omega) (by omega)
                  rw [hsm] at h
                  exact h
                have hbl := lt_cellC hc
                generalize ys.getD o none = y at *
                generalize (xs.getD o none).getD ⟨#[]⟩ = sx at *
                generalize pr y = q at *
                obtain ⟨qa, qb⟩ := q
                simp only at u1 u2
                have HQI := Lib.hid hqi
                clear hE hsm hs1 ho hoM hox hqi
                go_wp2_with (first
                  | (go_at_call 41; (with_reducible refine u1.mono ?_); rintro e w6 ⟨rfl, hb6⟩
                     have hb7 := hb6.alloc hb6.size (.cells #[.int .i64 qa, .string qb] 68)
                     have c6 := (hb7.cell (p := ⟨b, off, none⟩) hbl).trans hc
                     have u22 := u2 _ hb7
                     clear u1)
                  | (go_at_call 41; (with_reducible refine u22.mono ?_); rintro e w7 ⟨rfl, hb8⟩
                     have hb9 := below_any hb7 hb8 hb7.size
                     have hb10 := hb9.alloc hb9.size (.cells #[.int .i64 qa, .string qb] 68)
                     have c7 := (hb10.cell (p := ⟨b, off, none⟩) hbl).trans hc
                     have t7 := (hb8.block w6.heap.size (by simp)).trans (heap_new w6 (.cells #[.int .i64 qa, .string qb] 68) rfl)
                     have u33 := u3 _ hb10)
                  | (go_at_call 42; (with_reducible refine u33.mono ?_); rintro e w8 ⟨rfl, hb11⟩
                     have hb12 := below_any hb10 hb11 hb10.size
                     have t8 := (hb11.block w6.heap.size (by simp; have := lt_of_heap t7; omega)).trans (heap_old _ t7)
                     have s8 := (hb11.block w7.heap.size (by simp)).trans (heap_new w7 (.cells #[.int .i64 qa, .string qb] 68) rfl)
                     have z1 : w8.cell? ⟨w6.heap.size, 0, none⟩ = some (.int .i64 qa) := cell_of t8 0 rfl
                     have z2 : w8.cell? ⟨w6.heap.size, 1, none⟩ = some (.string qb) := cell_of t8 1 rfl
                     have z3 : w8.cell? ⟨w7.heap.size, 0, none⟩ = some (.int .i64 qa) := cell_of s8 0 rfl
                     have z4 : w8.cell? ⟨w7.heap.size, 1, none⟩ = some (.string qb) := cell_of s8 1 rfl
                     clear t8 s8 t7 c6 c7 hc))
                go_roundw
                case rel => exact ⟨j + 1, by go_num, by omega, below_any hB5 hb12 hB5.size⟩
                case measure => simp [intOf]; omega
              · obtain rfl : j = A8.length := by omega
                go_wp2_with (go_at_call 13; (with_reducible refine (wakesAt _).mono ?_); rintro e w9 ⟨rfl, hb9⟩)
                go_ret
                exact ⟨rfl, below_any (below_any hb0 K6.bel hb0.size) hb9 (Nat.le_trans hb0.size K6.bel.size)⟩
end Go.Proofs.YtffbcccbhofbpaaDoor
