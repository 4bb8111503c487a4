/- The law of columns, walked. -/
import Derived.Test.YtffbcccbhofbpaaDoorH0
import Derived.Deep.LoopGhost
import Derived.Deep.Cut
import Derived.Deep.CutBlock
import Derived.Deep.DeepCutAuto
import Derived.Deep.RegionWith
import Derived.Deep.QuietTactic
import Derived.BigQuiet
namespace Go.Proofs.YtffbcccbhofbpaaDoor
open Go.RowKit

/-- How many of the first k cells are null. -/
def nl (C : Nat → Int × Bool) (k : Nat) : Nat := (((col C k).map Option.isNone).filter id).length
theorem nl_succ (C : Nat → Int × Bool) (k : Nat) : nl C (k + 1) = nl C k + if (C k).2 then 1 else 0 := by
  unfold nl
  rw [col_succ]
  cases (C k).2 <;> simp
theorem nl_le (C : Nat → Int × Bool) (k : Nat) : nl C k ≤ k := by
  unfold nl
  have h := List.length_filter_le id ((col C k).map Option.isNone)
  rw [List.length_map, col_length] at h
  exact h
/-- The column of the law. -/
structure CI (W0 w : World) (g : Nat) (xs : List (Option Int)) (F : Nat → Prop) : Prop where
  c : ColNum w g xs F
  low : ∀ i, F i → W0.heap.size ≤ i
  bel : Below W0.heap.size W0 w
theorem CI.turn {W0 w w' : World} {g : Nat} {xs xs' : List (Option Int)} {F F' : Nat → Prop} (h : CI W0 w g xs F) (t : Turn F F' w w') (c' : ColNum w' g xs' F') : CI W0 w' g xs' F' :=
  ⟨c', turn_low t h.bel.size h.low, h.bel.trans (t.ch.below h.bel.size h.low)⟩
theorem CI.below {W0 w w' : World} {g : Nat} {xs : List (Option Int)} {F : Nat → Prop} (h : CI W0 w g xs F) (b : Below w.heap.size w w') : CI W0 w' g xs F :=
  ⟨h.c.below b, h.low, below_any h.bel b h.bel.size⟩
set_option maxRecDepth 20000 in
set_option maxHeartbeats 12800000 in
theorem columnsWalk (w : World) (p pa pt : Option Addr) (n cap m capa q capt : Nat) (C : Nat → Int × Bool) (A Z : Nat → Int) (hC : CellL w p n C) (hA : IntL w pa m A) (hZ : IntL w pt q Z) (hn : n ≤ maxLen) (hm : m ≤ maxLen) (hq : q ≤ 17592186044000) :
    Calls Tryd.prog 5 #[.agg #[.slice p n cap, .slice pa m capa, .slice pt q capt]] w fun e w' => e = .returned (.bool true) ∧ Below w.heap.size w w' := by
  obtain ⟨W0, hW0⟩ : ∃ W0, W0 = w.alloc (.cells #[.slice p n cap, .slice pa m capa, .slice pt q capt] 50) := ⟨_, rfl⟩
  have hb0 : Below w.heap.size w W0 := by rw [hW0]; exact below1 _ _
  have hx : W0.heap[w.heap.size]? = some (.cells #[.slice p n cap, .slice pa m capa, .slice pt q capt] 50) := by rw [hW0]; exact heap_new _ _ rfl
  have hwl : w.heap.size < W0.heap.size := lt_of_heap hx
  replace hC := hC.below hb0
  replace hA := hA.below hb0
  replace hZ := hZ.below hb0
  have HN := Lib.hid hn
  have HM := Lib.hid hm
  have hn2 : n ≤ 9223372036854775807 := by unfold maxLen at hn; omega
  have hm2 : m ≤ 9223372036854775807 := by unfold maxLen at hm; omega
  obtain ⟨M, hM⟩ : ∃ M, M = min n 300 := ⟨_, rfl⟩
  have hMn : M ≤ n := by omega
  have hM3 : M ≤ 300 := by omega
  have hMM : M = n ∨ M = 300 := by omega
  have HMM := Lib.hid hMM
  have H0 := Lib.hid hW0
  clear hW0 hM hMM hn hm
  go_enter Tryd.func5, Tryd.ntmps5
  go_upto_block 0 with (go_at_call 23; rw [← H0.out]; (with_reducible refine (newColNum _).mono ?_); rintro e w1 ⟨g, F1, rfl, hb1, c1, m1⟩)
  have K1 : CI W0 w1 g (col C 0) F1 := ⟨c1, m1, hb1⟩
  clear c1 m1 hb1
  go_cut [4] (fun s4 wx => s4 = .int .i64 (nl C M) ∧ ∃ F, CI W0 wx g (col C M) F)
  case first =>
    go_wp2_with fail
    go_loopw [4, 5] (fun s4 s5 wr => ∃ (k : Nat) (F : Nat → Prop), s5 = .int .i64 k ∧ s4 = .int .i64 (nl C k) ∧ k ≤ M ∧ CI W0 wr g (col C k) F) (fun _ i _ => 300 - (intOf i).toNat)
    case atStart => exact ⟨0, F1, rfl, rfl, by omega, K1⟩
    case round =>
      clear K1
      obtain ⟨k, F, rfl, rfl, hk, K⟩ := hrel
      have x0 : wr.cell? ⟨w.heap.size, 0, none⟩ = some (.slice p n cap) := cell_of ((K.bel.block _ hwl).trans hx) 0 rfl
      by_cases hlt : k < M
      · have d2 : decide ((k : Int) < 300) = true := by simp; omega
        have hkn : k < n := by omega
        obtain ⟨b, o, hix, hc, hd⟩ := (hC.below K.bel).at (cap := cap) HN.out k hkn
        have hS := col_succ C k
        have hNS := nl_succ C k
        have hNL := nl_le C k
        have hl := col_length C k
        generalize C k = y at *
        obtain ⟨cn, cb⟩ := y
        simp only at hc hd
        have HS := Lib.hid hS
        have HNS := Lib.hid hNS
        cases cb with
        | true =>
          have hp := putNullNum wr g _ F K.c (by rw [hl]; omega)
          clear hS hNS hl hC
          go_wp2_with (go_at_call 24; (with_reducible refine hp.mono ?_); rintro e w5 ⟨rfl, F5, c5, t5⟩)
          go_roundw
          case rel => exact ⟨k + 1, F5, by go_num, by rw [HNS.out]; simp, by omega, K.turn t5 (by rw [HS.out]; simpa using c5)⟩
          case measure => simp [intOf]; omega
        | false =>
          have hp := putNum wr g _ F K.c (by rw [hl]; omega) cn
          clear hS hNS hl hC
          go_wp2_with (go_at_call 25; (with_reducible refine hp.mono ?_); rintro e w5 ⟨rfl, F5, c5, t5⟩)
          go_roundw
          case rel => exact ⟨k + 1, F5, by go_num, by rw [HNS.out]; simp, by omega, K.turn t5 (by rw [HS.out]; simpa using c5)⟩
          case measure => simp [intOf]; omega
      · obtain rfl : k = M := by omega
        by_cases hkn : k < n
        case' pos =>
          have dA : decide (k < n) = true := by simpa using hkn
          have dB : decide ((k : Int) < 300) = false := by have := HMM.out; simp; omega
        case' neg =>
          have dA : decide (k < n) = false := by simpa using hkn
          have dB : True := trivial
        all_goals
          clear hkn hlt
          go_wp2_with fail
          go_meet
          case rel => exact ⟨rfl, F, K⟩
  case rest =>
    clear K1
    obtain ⟨rfl, F, K⟩ := hcut
    have x0 : wc.cell? ⟨w.heap.size, 0, none⟩ = some (.slice p n cap) := cell_of ((K.bel.block _ hwl).trans hx) 0 rfl
    go_upto_if 54 with fail
    go_cut [6] (fun s6 wx => s6 = .int .i64 M ∧ wx = wc)
    case first =>
      go_wp2_with fail
      all_goals
        go_meet
        case rel =>
          refine ⟨?_, rfl⟩
          have h := HMM.out
          first
            | (have e : (n : Int) = M := by omega
               rw [e])
            | (have e : (300 : Int) = M := by omega
               rw [e])
    case rest =>
      obtain ⟨rfl, rfl⟩ := hcut
      clear x0
      have hln := lenNum wc g _ F K.c
      rw [col_length] at hln
      have hnu := nullsNum wc g _ F K.c (by rw [col_length]; omega)
      have HNU : Hid ((((col C M).map Option.isNone).filter id).length = nl C M) := Lib.hid rfl
      rw [HNU.out] at hnu
      go_upto_block 2 with (first
        | (go_at_call 26; (with_reducible refine hln.mono ?_); rintro e w2 ⟨rfl, rfl⟩)
        | (go_at_call 27; (with_reducible refine hnu.mono ?_); rintro e w2 ⟨rfl, rfl⟩))
      go_cut [3] (fun s3 wx => s3 = .pointer (some ⟨g, 0, none⟩) ∧ ∃ F, CI W0 wx g (col C M) F)
      case first =>
        go_wp2_with fail
        go_loopw [7] (fun s7 wr => ∃ (k : Nat) (F : Nat → Prop), s7 = .int .i64 k ∧ k ≤ 60 ∧ CI W0 wr g (col C M) F) (fun i _ => 60 - (intOf i).toNat)
        case atStart => exact ⟨0, F, rfl, by omega, K⟩
        case round =>
          clear K hln hnu
          obtain ⟨k, F, rfl, hk, K⟩ := hrel
          have hbx := (K.bel.block _ hwl).trans hx
          have x0 : wr.cell? ⟨w.heap.size, 0, none⟩ = some (.slice p n cap) := cell_of hbx 0 rfl
          have x1 : wr.cell? ⟨w.heap.size, 1, none⟩ = some (.slice pa m capa) := cell_of hbx 1 rfl
          have x2 : wr.cell? ⟨w.heap.size, 2, none⟩ = some (.slice pt q capt) := cell_of hbx 2 rfl
          by_cases hgo : k < m ∧ k < 60
          · obtain ⟨hkm, hk6⟩ := hgo
            have d1 : decide ((k : Int) < 60) = true := by simp; omega
            obtain ⟨b, o, hix, hc⟩ := (hA.below K.bel).at (cap := capa) HM.out k hkm
            generalize A k = z at *
            have hcl : ∀ W, Below wr.heap.size wr W → Calls Tryd.prog 28 #[.pointer (some ⟨g, 0, none⟩), .agg #[.slice p n cap, .slice pa m capa, .slice pt q capt], .int .i64 z, .int .i64 M] W fun e w' => e = .returned (.bool true) ∧ Below W.heap.size W w' := fun W hW => by
              have KW := K.below hW
              by_cases hz : 0 ≤ z ∧ z < (M : Int)
              · obtain ⟨i, rfl⟩ : ∃ i : Nat, z = i := ⟨z.toNat, by omega⟩
                exact cellYes W g C M F KW.c (by omega) p n cap (hC.below KW.bel) HN.out _ _ i (by omega) hMn
              · exact cellNo W g _ F KW.c _ _ _ z (by rw [col_length]; omega) M (col_length C M)
            have okd : Below wr.heap.size wr wr.drew := ⟨rfl, rfl, rfl, Nat.le_refl _, fun _ _ => rfl⟩
            have hc2 := hcl wr.drew okd
            clear hcl hC hA hZ hbx
            go_wp2_with fail
            go_region_with (go_at_call 28; refine hc2.mono ?_; rintro e w3 ⟨rfl, hb3⟩; replace hb3 : Below wr.heap.size wr w3 := ⟨hb3.os, hb3.tape, hb3.output, hb3.size, hb3.block⟩)
            all_goals
              go_wp2_with fail
              go_roundw
              case rel => exact ⟨k + 1, F, by go_num, by omega, K.below hb3⟩
              case measure => simp [intOf]; omega
          · by_cases hkm : k < m
            case' pos =>
              have dA : decide (k < m) = true := by simpa using hkm
              have dB : decide ((k : Int) < 60) = false := by simp; omega
            case' neg =>
              have dA : decide (k < m) = false := by simpa using hkm
              have dB : True := trivial
            all_goals
              clear hkm hgo
              go_wp2_with fail
              go_meet
              case rel => exact ⟨rfl, F, K⟩
      case rest =>
        clear K hln hnu
        obtain ⟨rfl, F, K⟩ := hcut
        have hbx := (K.bel.block _ hwl).trans hx
        have x2 : wc.cell? ⟨w.heap.size, 2, none⟩ = some (.slice pt q capt) := cell_of hbx 2 rfl
        clear hbx
        by_cases hbad : ∃ i, i < q ∧ (Z i < 0 ∨ (M : Int) ≤ Z i)
        · have htk := takeNoNum wc g _ F K.c pt q capt Z (hZ.below K.bel) (by unfold maxLen; omega) (by rw [col_length]; unfold maxLen; omega) (by rw [col_length]; exact hbad)
          have HB := Lib.hid hbad
          clear hbad
          go_wp2_with (go_at_call 29; (with_reducible refine htk.mono ?_); rintro e w2 ⟨rfl, rfl⟩)
          go_loop [10] (fun i => ∃ k : Nat, k ≤ q ∧ i = .int .i64 k ∧ Hid (∀ j, j < k → 0 ≤ Z j ∧ Z j < (M : Int))) (fun i => q - (intOf i).toNat)
          case atStart => exact ⟨0, Nat.zero_le _, rfl, Lib.hid (by omega)⟩
          case round =>
            obtain ⟨k, hk, rfl, HA⟩ := hrel
            by_cases hlt : k < q
            · obtain ⟨b, o, hix, hc⟩ := (hZ.below K.bel).at (cap := capt) (by unfold maxLen; omega) k hlt
              generalize hzk : Z k = z at *
              by_cases hv : 0 ≤ z ∧ z < (M : Int)
              · obtain ⟨hv1, hv2⟩ := hv
                have HA2 : Hid (∀ j, j < k + 1 → 0 ≤ Z j ∧ Z j < (M : Int)) := Lib.hid fun j hj => by
                  by_cases e : j = k
                  · subst e; rw [hzk]; exact ⟨hv1, hv2⟩
                  · exact HA.out j (by omega)
                have d1 : decide (z < 0) = false := by simp; omega
                have d2 : decide ((M : Int) ≤ z) = false := by simp; omega
                clear hzk hZ
                go_wp2_with fail
                go_round
                case rel => exact ⟨k + 1, by omega, by go_num, HA2⟩
                case measure => simp [intOf]; omega
              · by_cases h0 : z < 0
                case' pos =>
                  have d1 : decide (z < 0) = true := by simpa using h0
                  have d2 : True := trivial
                case' neg =>
                  have d1 : decide (z < 0) = false := by simpa using h0
                  have d2 : decide ((M : Int) ≤ z) = true := by simp; omega
                all_goals
                  clear hv hzk hZ h0
                  go_wp2_with (go_at_call 13; (with_reducible refine (wakesAt _).mono ?_); rintro e w9 ⟨rfl, hb9⟩)
                  go_ret
                  exact ⟨rfl, below_any (below_any hb0 K.bel hb0.size) hb9 (Nat.le_trans hb0.size K.bel.size)⟩
            · exfalso
              obtain ⟨i, hi, hb⟩ := HB.out
              have := HA.out i (by omega)
              omega
        · have hok : ∀ i, i < q → 0 ≤ Z i ∧ Z i < (M : Int) := fun i hi => by
            by_cases h1 : 0 ≤ Z i ∧ Z i < (M : Int)
            · exact h1
            · exact absurd ⟨i, hi, by omega⟩ hbad
          have htk := takeYesNum wc g _ F K.c (by rw [col_length]; omega) pt q capt Z (hZ.below K.bel) (by omega) (by rw [col_length]; exact hok)
          have HO := Lib.hid hok
          clear hok hbad
          go_wp2_with (go_at_call 29; (with_reducible refine htk.mono ?_); rintro e w2 ⟨g2, F2, rfl, hb2, c2, m2⟩)
          have K2 := K.below hb2
          have ap : ∀ i, F i → ¬ F2 i := fun i f f2 => by have h1 := K.c.lt f; have h2 := m2 i f2; omega
          have low2 : ∀ i, F2 i → W0.heap.size ≤ i := fun i f2 => Nat.le_trans K.bel.size (m2 i f2)
          have y2 : w2.cell? ⟨w.heap.size, 2, none⟩ = some (.slice pt q capt) := cell_of ((K2.bel.block _ hwl).trans hx) 2 rfl
          have hL2 : Hid ((tk (col C M) Z q).length = q) := Lib.hid (tk_length _ _ _)
          have hG2 : Hid (∀ k, k < q → (tk (col C M) Z q)[k]? = some ((col C M).getD (Z k).toNat none)) := Lib.hid fun k hk => tk_get _ _ _ _ hk
          clear K x2 htk m2 hb2
          go_loop [10] (fun i => ∃ k : Nat, k ≤ q ∧ i = .int .i64 k) (fun i => q - (intOf i).toNat)
          case atStart => exact ⟨0, Nat.zero_le _, rfl⟩
          case round =>
            obtain ⟨k, hk, rfl⟩ := hrel
            by_cases hlt : k < q
            · obtain ⟨b, o, hix, hc⟩ := (hZ.below K2.bel).at (cap := capt) (by unfold maxLen; omega) k hlt
              have hv := HO.out k hlt
              generalize Z k = z at *
              have d1 : decide (z < 0) = false := by simp; omega
              have d2 : decide ((M : Int) ≤ z) = false := by simp; omega
              clear hv hZ
              go_wp2_with fail
              go_round
              case rel => exact ⟨k + 1, by omega, by go_num⟩
              case measure => simp [intOf]; omega
            · have dA : decide (k < q) = false := by simpa using hlt
              clear hk hlt
              go_wp2_with fail
              have hlt2 : ∀ nn, Calls Tryd.prog 26 #[.pointer (some ⟨g2, 0, none⟩)] (w2.drewN nn) fun e w' => e = .returned (.int .i64 q) ∧ w' = w2.drewN nn := fun nn => by
                have h := lenNum (w2.drewN nn) g2 _ F2 (show ColNum (w2.drewN nn) g2 (tk (col C M) Z q) F2 from c2)
                rw [hL2.out] at h
                exact h.mono fun _ _ ⟨h1, h2⟩ => ⟨h1, h2.symm⟩
              go_cut [137] (fun s137 wx => s137 = .bool false ∧ ∃ nn, wx = w2.drewN nn)
              case first =>
                go_quiet ((go_at_call 26; exact Calls.quiet_of_same (hlt2 _)))
                all_goals
                  go_wp2_with fail
                  go_meet
                  case rel => exact ⟨rfl, _, rfl⟩
              case rest =>
                clear hlt2 dA
                obtain ⟨rfl, nn, rfl⟩ := hcut
                go_wp2_with fail
                have K3 : CI W0 (w2.drewN nn) g (col C M) F := ⟨K2.c, K2.low, ⟨K2.bel.os, K2.bel.tape, K2.bel.output, K2.bel.size, K2.bel.block⟩⟩
                have c3 : ColNum (w2.drewN nn) g2 (tk (col C M) Z q) F2 := c2
                go_loopw [11] (fun s11 wr => ∃ k : Nat, s11 = .int .i64 k ∧ k ≤ 100 ∧ CI W0 wr g (col C M) F ∧ ColNum wr g2 (tk (col C M) Z q) F2) (fun i _ => 100 - (intOf i).toNat)
                case atStart => exact ⟨0, rfl, by omega, K3, c3⟩
                case round =>
                  clear K3 c3 K2 c2 y2
                  obtain ⟨k, rfl, hk, K, c2⟩ := hrel
                  have x2 : wr.cell? ⟨w.heap.size, 2, none⟩ = some (.slice pt q capt) := cell_of ((K.bel.block _ hwl).trans hx) 2 rfl
                  by_cases hgo : k < q ∧ k < 100
                  · obtain ⟨hkq, hk1⟩ := hgo
                    have d1 : decide ((k : Int) < 100) = true := by simp; omega
                    obtain ⟨b, o, hix, hc⟩ := (hZ.below K.bel).at (cap := capt) (by unfold maxLen; omega) k hkq
                    have hv := HO.out k hkq
                    have ht := hG2.out k hkq
                    generalize Z k = z at *
                    obtain ⟨i, rfl⟩ : ∃ i : Nat, z = i := ⟨z.toNat, by omega⟩
                    have hiM : i < M := by omega
                    have ht2 : (tk (col C M) Z q)[k]? = some ((col C M).getD i none) := ht
                    have hci : (col C M)[i]? = some ((col C M).getD i none) := by
                      rw [List.getD_eq_getElem?_getD, col_get C M i hiM]; rfl
                    have hat1 := atYesNum wr g2 _ F2 c2 (by rw [hL2.out]; omega) k _ ht2
                    have hat2 : ∀ W, Below wr.heap.size wr W → Calls Tryd.prog 30 #[.pointer (some ⟨g, 0, none⟩), .int .i64 i] W fun e w' => e = .returned (.tuple #[.int .i64 (((col C M).getD i none).getD 0), .bool ((col C M).getD i none).isSome, .int .i64 0]) ∧ Below W.heap.size W w' := fun W hW =>
                      atYesNum W g _ F (K.below hW).c (by rw [col_length]; omega) i _ hci
                    generalize (col C M).getD i none = y at *
                    have hbl := lt_cellC hc
                    clear ht ht2 hci hv hZ
                    go_wp2_with (first
                      | (go_at_call 30; (with_reducible refine hat1.mono ?_); rintro e w5 ⟨rfl, hb5⟩
                         have K5 := K.below hb5
                         have c5 := c2.below hb5
                         have y2 : w5.cell? ⟨w.heap.size, 2, none⟩ = some (.slice pt q capt) := cell_of ((K5.bel.block _ hwl).trans hx) 2 rfl
                         have y3 : w5.cell? ⟨b, o, none⟩ = some (.int .i64 i) := (hb5.cell (p := ⟨b, o, none⟩) hbl).trans hc
                         have hat3 := hat2 w5 hb5)
                      | (go_at_call 30; (with_reducible refine hat3.mono ?_); rintro e w6 ⟨rfl, hb6⟩
                         have K6 := K5.below hb6
                         have c6 := c5.below hb6))
                    go_roundw
                    case rel => exact ⟨k + 1, by go_num, by omega, K6, c6⟩
                    case measure => simp [intOf]; omega
                  · have hpt := putNum wr g2 _ F2 c2 (by rw [hL2.out]; omega) 1
                    by_cases hkq : k < q
                    case' pos =>
                      have dA : decide (k < q) = true := by simpa using hkq
                      have dB : decide ((k : Int) < 100) = false := by simp; omega
                    case' neg =>
                      have dA : decide (k < q) = false := by simpa using hkq
                      have dB : True := trivial
                    all_goals
                      clear hkq hgo
                      go_wp2_with (first
                        | (go_at_call 25; (with_reducible refine hpt.mono ?_); rintro e w5 ⟨rfl, F5, c5, t5⟩
                           have cc : ColNum w5 g (col C M) F := K.c.ch t5.ch ap
                           have b5 : Below W0.heap.size W0 w5 := K.bel.trans (t5.ch.below K.bel.size low2)
                           have hle := lenNum w5 g _ F cc
                           rw [col_length] at hle)
                        | (go_at_call 26; (with_reducible refine hle.mono ?_); rintro e w6 ⟨rfl, rfl⟩)
                        | (go_at_call 13; (with_reducible refine (wakesAt _).mono ?_); rintro e w9 ⟨rfl, hb9⟩))
                      go_ret
                      exact ⟨rfl, below_any (below_any hb0 b5 hb0.size) hb9 (Nat.le_trans hb0.size b5.size)⟩
end Go.Proofs.YtffbcccbhofbpaaDoor
