/- The law of keys, walked: where a list is nil. -/
import Derived.Test.YtffbcccbhofbpaaDoorF2
namespace Go.Proofs.YtffbcccbhofbpaaDoor
open Go.RowKit

set_option maxRecDepth 20000 in
set_option maxHeartbeats 6400000 in
theorem keysWalkL (w : World) (b off n cap : Nat) (S : Nat → ByteArray) (hS : Strs w b off n S) (hSl : ∀ i, i < n → (S i).size ≤ maxLen ∧ (S i).size ≤ 281474976710656) (hn : n ≤ maxLen) (q0 : Option Addr) (cap2 : Nat) :
    Calls Tryd.prog 3 #[.agg #[.slice (some ⟨b, off, none⟩) n cap, .slice q0 0 cap2]] w fun e w' => e = .returned (.bool true) ∧ Below w.heap.size w w' := by
  obtain ⟨i0, hi, hz0, hz1, hz2⟩ := info_parts info9c
  obtain ⟨W0, hW0⟩ : ∃ W0, W0 = w.alloc (.cells #[.slice (some ⟨b, off, none⟩) n cap, .slice q0 0 cap2] 25) := ⟨_, rfl⟩
  have hb0 : Below w.heap.size w W0 := by rw [hW0]; exact below1 _ _
  have hx : W0.heap[w.heap.size]? = some (.cells #[.slice (some ⟨b, off, none⟩) n cap, .slice q0 0 cap2] 25) := by rw [hW0]; exact heap_new _ _ rfl
  have hwl : w.heap.size < W0.heap.size := lt_of_heap hx
  replace hS := hS.below hb0
  unfold maxLen at hn
  have H0 := Lib.hid hW0
  clear hW0
  go_enter Tryd.func3, Tryd.ntmps3
  go_wp2_with (go_at_call 7; rw [← H0.out]; (with_reducible refine (newAt _).mono ?_); rintro e w1 ⟨g, F1, rfl, hb1, d1, m1⟩)
  have K1 : KI W0 w1 g [] [] (.slice none 0 0) F1 := ⟨d1, World.ownsRow_nil _ _ _ _, fun i _ q => by simp [Value.ownBlock] at q, m1, fun i q => by simp [Value.ownBlock] at q, hb1⟩
  clear d1 m1 hb1
  go_loopw [4, 5] (fun s4 s5 wr => ∃ (k : Nat) (A : List ByteArray) (F : Nat → Prop), s5 = .int .i64 k ∧ k ≤ 200 ∧ A.length ≤ k ∧ KI W0 wr g A A s4 F) (fun _ i _ => 200 - (intOf i).toNat)
  case atStart => exact ⟨0, [], F1, rfl, by omega, by simp, K1⟩
  case round =>
    clear K1
    obtain ⟨k, A, F, rfl, hk, hA, K⟩ := hrel
    obtain ⟨p4, cap4, rfl⟩ := row_slice K.r
    have hbx : wr.heap[w.heap.size]? = some (.cells #[.slice (some ⟨b, off, none⟩) n cap, .slice q0 0 cap2] 25) := (K.bel.block _ hwl).trans hx
    have x0 : wr.cell? ⟨w.heap.size, 0, none⟩ = some (.slice (some ⟨b, off, none⟩) n cap) := cell_of hbx 0 rfl
    have x1 : wr.cell? ⟨w.heap.size, 1, none⟩ = some (.slice q0 0 cap2) := cell_of hbx 1 rfl
    by_cases hgo : k < n ∧ k < 200
    · obtain ⟨hkn, hk2⟩ := hgo
      have hsc0 := hS k hkn
      have hbW := lt_cell hsc0
      have hsc := (K.bel.cell (p := ⟨b, off + k, none⟩) hbW).trans hsc0
      obtain ⟨hs1, hs2⟩ := hSl k hkn
      generalize S k = s at *
      have d1 : decide ((k : Int) < 200) = true := by simp; omega
      by_cases hm : s ∈ A
      · obtain ⟨j, hj, hje⟩ := List.getElem_of_mem hm
        have hjs : A[j]? = some s := by rw [List.getElem?_eq_getElem hj, hje]
        have hnd : A.Nodup := by obtain ⟨_, _, _, _, _, _, _, _, _, h5, _⟩ := K.d; exact h5
        have HI := fun W (e : wr = W) => indexYes wr (.slice p4 A.length cap4) A s j K.r hnd hjs (by omega)
        have hix := indexYes wr (.slice p4 A.length cap4) A s j K.r hnd hjs (by omega)
        have hfi := FindYes wr g A F K.d s j hjs hs1
        have hid := IDYes wr g A F K.d s j hjs hs1
        have hle := LenAt wr g A F K.d
        clear hm hje hjs hnd HI hS hSl hbx
        go_wp2_with (first
          | (go_at_call 8; (with_reducible refine hix.mono ?_); rintro e w2 ⟨rfl, rfl⟩)
          | (go_at_call 9; (with_reducible refine hfi.mono ?_); rintro e w2 ⟨rfl, rfl⟩)
          | (go_at_call 10; (with_reducible refine hid.mono ?_); rintro e w2 ⟨rfl, rfl⟩)
          | (go_at_call 11; (with_reducible refine hle.mono ?_); rintro e w2 ⟨rfl, rfl⟩))
        go_roundw
        case rel => exact ⟨k + 1, A, F, by go_num, by omega, by omega, K⟩
        case measure => simp [intOf]; omega
      · have hix := indexNo wr (.slice p4 A.length cap4) A s K.r hm (by omega)
        have hfi := FindNo wr g A F K.d s hm hs1
        have hr4 := K.r
        have HM := Lib.hid hm
        clear hm hS hSl hbx
        go_wp2_with (first
          | (go_at_call 8; (with_reducible refine hix.mono ?_); rintro e w2 ⟨rfl, rfl⟩)
          | (go_at_call 9; (with_reducible refine hfi.mono ?_); rintro e w2 ⟨rfl, rfl⟩)
          | (at_builtin; refine Hid.out ?_))
        refine Lib.hid ?_
        refine wpList_append_own_at _ rfl _ _ 22 rfl 0 9 i0 (.string ⟨#[]⟩) 1 16 Tryd.underlying22 hi hz0 hz1 hz2 rfl (by decide) (.slice p4 A.length cap4) A.length (A.map Value.string) rfl (hr4.alloc _) ⟨wr.heap.size, 0, none⟩ 1 1 [.string s] rfl rfl (cell_one_new _ _ _) ?_ ?_ ?_ ?_ ?_
        all_goals (try (first | (intro u hu; simp at hu; subst hu; rfl) | (unfold maxLen; omega) | omega | (simp; done)))
        intro v' w3 hr hg3 _ hat
        obtain ⟨p5, cap5, rfl⟩ := row_slice hr
        have K3 : KI W0 w3 g A (A ++ [s]) (.slice p5 (A.length + 1) cap5) F := K.all (below1 wr _) hg3 (by simpa using hr) hat
        have y0 : w3.cell? ⟨w.heap.size, 0, none⟩ = some (.slice (some ⟨b, off, none⟩) n cap) := cell_of ((K3.bel.block _ hwl).trans hx) 0 rfl
        have y1 : w3.cell? ⟨b, off + k, none⟩ = some (.string s) := (K3.bel.cell (p := ⟨b, off + k, none⟩) hbW).trans hsc0
        have hid := IDNo w3 g A F K3.d s HM.out hs1 hs2 (by omega)
        clear hr4 hr hg3 hat x0 x1 hsc hix hfi K
        go_wp2_with (first
          | (go_at_call 10; (with_reducible refine hid.mono ?_); rintro e w4 ⟨F4, rfl, d4, t4⟩; have K4 := K3.turn t4 d4; have hle := LenAt w4 g (A ++ [s]) F4 K4.d; rw [List.length_append] at hle)
          | (go_at_call 11; (with_reducible refine hle.mono ?_); rintro e w5 ⟨rfl, rfl⟩))
        go_roundw
        case rel => exact ⟨k + 1, A ++ [s], F4, by go_num, by omega, by simp; omega, K4⟩
        case measure => simp [intOf]; omega
    · by_cases hkn : k < n
      case' pos =>
        have dA : decide (k < n) = true := by simpa using hkn
        have dB : decide ((k : Int) < 200) = false := by simp; omega
      case' neg =>
        have dA : decide (k < n) = false := by simpa using hkn
        have dB : True := trivial
      all_goals
        clear hgo hkn
        go_wp2_with fail
        obtain ⟨wo, rfl⟩ : ∃ wo : World, wo = wr := ⟨_, rfl⟩
        go_loopw [9] (fun s9 wq => ∃ j : Nat, s9 = .int .i64 j ∧ j ≤ 50 ∧ KI W0 wq g A A (.slice p4 A.length cap4) F) (fun i _ => 50 - (intOf i).toNat)
        case atStart => exact ⟨0, rfl, by omega, K⟩
        case round =>
          clear K x0 x1 dA dB hbx
          obtain ⟨j, rfl, hj, K⟩ := hrel
          have hbx : wr.heap[w.heap.size]? = some (.cells #[.slice (some ⟨b, off, none⟩) n cap, .slice q0 0 cap2] 25) := (K.bel.block _ hwl).trans hx
          have x1 : wr.cell? ⟨w.heap.size, 1, none⟩ = some (.slice q0 0 cap2) := cell_of hbx 1 rfl
          go_wp2_with (go_at_call 13; (with_reducible refine (wakesAt _).mono ?_); rintro e w9 ⟨rfl, hb9⟩)
          go_ret
          exact ⟨rfl, below_any (below_any hb0 K.bel hb0.size) hb9 (Nat.le_trans hb0.size K.bel.size)⟩
set_option maxRecDepth 20000 in
set_option maxHeartbeats 6400000 in
theorem keysWalkN (w : World) (p : Option Addr) (cap : Nat) (c off2 m cap2 : Nat) (Z : Nat → Int) (hZ : Nums w c off2 m Z) (hm : m ≤ maxLen) :
    Calls Tryd.prog 3 #[.agg #[.slice p 0 cap, .slice (some ⟨c, off2, none⟩) m cap2]] w fun e w' => e = .returned (.bool true) ∧ Below w.heap.size w w' := by
  obtain ⟨i0, hi, hz0, hz1, hz2⟩ := info_parts info9c
  obtain ⟨W0, hW0⟩ : ∃ W0, W0 = w.alloc (.cells #[.slice p 0 cap, .slice (some ⟨c, off2, none⟩) m cap2] 25) := ⟨_, rfl⟩
  have hb0 : Below w.heap.size w W0 := by rw [hW0]; exact below1 _ _
  have hx : W0.heap[w.heap.size]? = some (.cells #[.slice p 0 cap, .slice (some ⟨c, off2, none⟩) m cap2] 25) := by rw [hW0]; exact heap_new _ _ rfl
  have hwl : w.heap.size < W0.heap.size := lt_of_heap hx
  replace hZ := hZ.below hb0
  unfold maxLen at hm
  have H0 := Lib.hid hW0
  clear hW0
  go_enter Tryd.func3, Tryd.ntmps3
  go_wp2_with (go_at_call 7; rw [← H0.out]; (with_reducible refine (newAt _).mono ?_); rintro e w1 ⟨g, F1, rfl, hb1, d1, m1⟩)
  have K1 : KI W0 w1 g [] [] (.slice none 0 0) F1 := ⟨d1, World.ownsRow_nil _ _ _ _, fun i _ q => by simp [Value.ownBlock] at q, m1, fun i q => by simp [Value.ownBlock] at q, hb1⟩
  clear d1 m1 hb1
  go_loopw [4, 5] (fun s4 s5 wr => ∃ (k : Nat) (A : List ByteArray) (F : Nat → Prop), s5 = .int .i64 k ∧ k ≤ 200 ∧ A.length ≤ k ∧ KI W0 wr g A A s4 F) (fun _ i _ => 200 - (intOf i).toNat)
  case atStart => exact ⟨0, [], F1, rfl, by omega, by simp, K1⟩
  case round =>
    clear K1
    obtain ⟨k, A, F, rfl, hk, hA, K⟩ := hrel
    obtain ⟨p4, cap4, rfl⟩ := row_slice K.r
    have hbx : wr.heap[w.heap.size]? = some (.cells #[.slice p 0 cap, .slice (some ⟨c, off2, none⟩) m cap2] 25) := (K.bel.block _ hwl).trans hx
    have x0 : wr.cell? ⟨w.heap.size, 0, none⟩ = some (.slice p 0 cap) := cell_of hbx 0 rfl
    have x1 : wr.cell? ⟨w.heap.size, 1, none⟩ = some (.slice (some ⟨c, off2, none⟩) m cap2) := cell_of hbx 1 rfl
    · have dA : True := trivial
      have dB : True := trivial
      go_wp2_with fail
      obtain ⟨wo, rfl⟩ : ∃ wo : World, wo = wr := ⟨_, rfl⟩
      go_loopw [9] (fun s9 wq => ∃ j : Nat, s9 = .int .i64 j ∧ j ≤ 50 ∧ KI W0 wq g A A (.slice p4 A.length cap4) F) (fun i _ => 50 - (intOf i).toNat)
      case atStart => exact ⟨0, rfl, by omega, K⟩
      case round =>
        clear K x0 x1 dA dB hbx
        obtain ⟨j, rfl, hj, K⟩ := hrel
        have hbx : wr.heap[w.heap.size]? = some (.cells #[.slice p 0 cap, .slice (some ⟨c, off2, none⟩) m cap2] 25) := (K.bel.block _ hwl).trans hx
        have x1 : wr.cell? ⟨w.heap.size, 1, none⟩ = some (.slice (some ⟨c, off2, none⟩) m cap2) := cell_of hbx 1 rfl
        by_cases hgo2 : j < m ∧ j < 50
        · obtain ⟨hjm, hj5⟩ := hgo2
          have hzc0 := hZ j hjm
          have hbZ := lt_cell hzc0
          have hzc := (K.bel.cell (p := ⟨c, off2 + j, none⟩) hbZ).trans hzc0
          have e1 : decide ((j : Int) < 50) = true := by simp; omega
          generalize Z j = z at *
          by_cases hzr : 0 ≤ z ∧ z < A.length
          · obtain ⟨hza, hzb⟩ := hzr
            obtain ⟨q, rfl⟩ : ∃ q : Nat, z = q := ⟨z.toNat, by omega⟩
            have hql : q < A.length := by omega
            have hqs : A[q]? = some A[q] := List.getElem?_eq_getElem hql
            generalize A[q] = st at hqs
            obtain ⟨r, cp, e, hce⟩ := text_cell K.r q st hqs
            cases e
            have hke := KeyYes wr g A F K.d q st hqs (by unfold maxLen; omega)
            have e2 : decide (q < A.length) = true := by simpa using hql
            have hrl := lt_cell hce
            clear hqs hza hzb hbx
            go_wp2_with (first
              | (go_at_call 12; (with_reducible refine hke.mono ?_); rintro e w6 ⟨rfl, hb6⟩
                 have K6 := K.below hb6
                 have y1 : w6.cell? ⟨w.heap.size, 1, none⟩ = some (.slice (some ⟨c, off2, none⟩) m cap2) := cell_of ((K6.bel.block _ hwl).trans hx) 1 rfl
                 have y2 : w6.cell? ⟨c, off2 + j, none⟩ = some (.int .i64 q) := (K6.bel.cell (p := ⟨c, off2 + j, none⟩) hbZ).trans hzc0
                 have y3 : w6.cell? ⟨r, q, none⟩ = some (.string st) := (hb6.cell (p := ⟨r, q, none⟩) hrl).trans hce
                 clear x1 hzc hce))
            go_roundw
            case rel => exact ⟨j + 1, by go_num, by omega, K6⟩
            case measure => simp [intOf]; omega
          · have hke := KeyNo wr g A F K.d z (by omega)
            by_cases hz0 : 0 ≤ z
            case' pos =>
              have e2 : decide (0 ≤ z) = true := by simpa using hz0
              have e3 : decide (z < (A.length : Int)) = false := by simp; omega
            case' neg =>
              have e2 : decide (0 ≤ z) = false := by simpa using hz0
              have e3 : True := trivial
            all_goals
              clear hz0 hzr hbx
              go_wp2_with (first
                | (go_at_call 12; (with_reducible refine hke.mono ?_); rintro e w6 ⟨rfl, hb6⟩
                   have K6 := K.below hb6
                   have y1 : w6.cell? ⟨w.heap.size, 1, none⟩ = some (.slice (some ⟨c, off2, none⟩) m cap2) := cell_of ((K6.bel.block _ hwl).trans hx) 1 rfl
                   have y2 : w6.cell? ⟨c, off2 + j, none⟩ = some (.int .i64 z) := (K6.bel.cell (p := ⟨c, off2 + j, none⟩) hbZ).trans hzc0
                   clear x1 hzc))
              go_roundw
              case rel => exact ⟨j + 1, by go_num, by omega, K6⟩
              case measure => simp [intOf]; omega
        · by_cases hjm : j < m
          case' pos =>
            have dA : decide (j < m) = true := by simpa using hjm
            have dB : decide ((j : Int) < 50) = false := by simp; omega
          case' neg =>
            have dA : decide (j < m) = false := by simpa using hjm
            have dB : True := trivial
          all_goals
            clear hgo2 hjm
            go_wp2_with (go_at_call 13; (with_reducible refine (wakesAt _).mono ?_); rintro e w9 ⟨rfl, hb9⟩)
            go_ret
            exact ⟨rfl, below_any (below_any hb0 K.bel hb0.size) hb9 (Nat.le_trans hb0.size K.bel.size)⟩
set_option maxRecDepth 20000 in
set_option maxHeartbeats 6400000 in
theorem keysWalk (w : World) (p : Option Addr) (cap : Nat) (q0 : Option Addr) (cap2 : Nat) :
    Calls Tryd.prog 3 #[.agg #[.slice p 0 cap, .slice q0 0 cap2]] w fun e w' => e = .returned (.bool true) ∧ Below w.heap.size w w' := by
  obtain ⟨i0, hi, hz0, hz1, hz2⟩ := info_parts info9c
  obtain ⟨W0, hW0⟩ : ∃ W0, W0 = w.alloc (.cells #[.slice p 0 cap, .slice q0 0 cap2] 25) := ⟨_, rfl⟩
  have hb0 : Below w.heap.size w W0 := by rw [hW0]; exact below1 _ _
  have hx : W0.heap[w.heap.size]? = some (.cells #[.slice p 0 cap, .slice q0 0 cap2] 25) := by rw [hW0]; exact heap_new _ _ rfl
  have hwl : w.heap.size < W0.heap.size := lt_of_heap hx
  have H0 := Lib.hid hW0
  clear hW0
  go_enter Tryd.func3, Tryd.ntmps3
  go_wp2_with (go_at_call 7; rw [← H0.out]; (with_reducible refine (newAt _).mono ?_); rintro e w1 ⟨g, F1, rfl, hb1, d1, m1⟩)
  have K1 : KI W0 w1 g [] [] (.slice none 0 0) F1 := ⟨d1, World.ownsRow_nil _ _ _ _, fun i _ q => by simp [Value.ownBlock] at q, m1, fun i q => by simp [Value.ownBlock] at q, hb1⟩
  clear d1 m1 hb1
  go_loopw [4, 5] (fun s4 s5 wr => ∃ (k : Nat) (A : List ByteArray) (F : Nat → Prop), s5 = .int .i64 k ∧ k ≤ 200 ∧ A.length ≤ k ∧ KI W0 wr g A A s4 F) (fun _ i _ => 200 - (intOf i).toNat)
  case atStart => exact ⟨0, [], F1, rfl, by omega, by simp, K1⟩
  case round =>
    clear K1
    obtain ⟨k, A, F, rfl, hk, hA, K⟩ := hrel
    obtain ⟨p4, cap4, rfl⟩ := row_slice K.r
    have hbx : wr.heap[w.heap.size]? = some (.cells #[.slice p 0 cap, .slice q0 0 cap2] 25) := (K.bel.block _ hwl).trans hx
    have x0 : wr.cell? ⟨w.heap.size, 0, none⟩ = some (.slice p 0 cap) := cell_of hbx 0 rfl
    have x1 : wr.cell? ⟨w.heap.size, 1, none⟩ = some (.slice q0 0 cap2) := cell_of hbx 1 rfl
    · have dA : True := trivial
      have dB : True := trivial
      go_wp2_with fail
      obtain ⟨wo, rfl⟩ : ∃ wo : World, wo = wr := ⟨_, rfl⟩
      go_loopw [9] (fun s9 wq => ∃ j : Nat, s9 = .int .i64 j ∧ j ≤ 50 ∧ KI W0 wq g A A (.slice p4 A.length cap4) F) (fun i _ => 50 - (intOf i).toNat)
      case atStart => exact ⟨0, rfl, by omega, K⟩
      case round =>
        clear K x0 x1 dA dB hbx
        obtain ⟨j, rfl, hj, K⟩ := hrel
        have hbx : wr.heap[w.heap.size]? = some (.cells #[.slice p 0 cap, .slice q0 0 cap2] 25) := (K.bel.block _ hwl).trans hx
        have x1 : wr.cell? ⟨w.heap.size, 1, none⟩ = some (.slice q0 0 cap2) := cell_of hbx 1 rfl
        go_wp2_with (go_at_call 13; (with_reducible refine (wakesAt _).mono ?_); rintro e w9 ⟨rfl, hb9⟩)
        go_ret
        exact ⟨rfl, below_any (below_any hb0 K.bel hb0.size) hb9 (Nat.le_trans hb0.size K.bel.size)⟩
end Go.Proofs.YtffbcccbhofbpaaDoor
