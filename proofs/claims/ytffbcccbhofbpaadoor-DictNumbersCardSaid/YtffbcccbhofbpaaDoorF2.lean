/- The law of keys, walked. -/
import Derived.Test.YtffbcccbhofbpaaDoorF1
import Derived.BigGuardPart
import Derived.Deep.LoopGhost
namespace Go.Proofs.YtffbcccbhofbpaaDoor
open Go.RowKit

/-- The dictionary, and the list of all texts that came. -/
structure KI (W0 w : World) (g : Nat) (A B : List ByteArray) (v : Value) (F : Nat → Prop) : Prop where
  d : Dic w g A F
  r : w.ownsRow 0 9 1 v B.length (B.map Value.string)
  ap : ∀ i, F i → v.ownBlock ≠ some i
  lowF : ∀ i, F i → W0.heap.size ≤ i
  lowv : ∀ i, v.ownBlock = some i → W0.heap.size ≤ i
  bel : Below W0.heap.size W0 w
section
variable {W0 w w' : World} {g : Nat} {A A' B B' : List ByteArray} {v v' : Value} {F F' : Nat → Prop}
theorem KI.turn (h : KI W0 w g A B v F) (t : Turn F F' w w') (d' : Dic w' g A' F') : KI W0 w' g A' B v F' :=
  ⟨d', row_keep h.r fun i hi => t.ch.block i (row_lt h.r hi) fun f => h.ap i f hi, fun i f e => turn_apart t (G := fun i => v.ownBlock = some i) (fun i f e => h.ap i f e) (fun i e => row_lt h.r e) i f e, turn_low t h.bel.size h.lowF, h.lowv, h.bel.trans (t.ch.below h.bel.size h.lowF)⟩
theorem KI.below (h : KI W0 w g A B v F) (b : Below w.heap.size w w') : KI W0 w' g A B v F :=
  ⟨h.d.below b, row_keep h.r fun i hi => b.block i (row_lt h.r hi), h.ap, h.lowF, h.lowv, below_any h.bel b h.bel.size⟩
theorem KI.all {z : World} (h : KI W0 w g A B v F) (hz : Below w.heap.size w z) (hg : z.grownBy w' v.ownBlock) (hr : w'.ownsRow 0 9 1 v' B'.length (B'.map Value.string)) (hat : v'.ownBlock = v.ownBlock ∨ v'.ownBlock = some z.heap.size) : KI W0 w' g A B' v' F := by
  have ft := foot_of hat
  have zl := hz.size
  refine ⟨(h.d.below hz).keep fun i f => hg.block i (by have := h.d.lt f; omega) (fun e => h.ap i f e.symm), hr, fun i f e => ?_, h.lowF, fun i e => ?_, ?_⟩
  · rcases ft i e with q | q
    · exact h.ap i f q
    · have := h.d.lt f; omega
  · rcases ft i e with q | q
    · exact h.lowv i q
    · have := h.bel.size; omega
  · exact h.bel.trans ((Ch.of_below (F := fun i => v.ownBlock = some i) hz).trans (G := fun i => v.ownBlock = some i) ((Ch.of_grown hg).mono fun i _ e => e) (fun _ _ e => e) |>.below h.bel.size h.lowv)
end
/-- Numbers that came in. -/
def Nums (w : World) (b off n : Nat) (Z : Nat → Int) : Prop := ∀ i, i < n → w.cell? ⟨b, off + i, none⟩ = some (.int .i64 (Z i))
def Strs (w : World) (b off n : Nat) (S : Nat → ByteArray) : Prop := ∀ i, i < n → w.cell? ⟨b, off + i, none⟩ = some (.string (S i))
theorem lt_cell {w : World} {b o : Nat} {v : Value} (h : w.cell? ⟨b, o, none⟩ = some v) : b < w.heap.size := by
  by_cases hb : b < w.heap.size
  · exact hb
  · have e : w.heap[b]? = none := Array.getElem?_eq_none (by omega)
    simp [World.cell?, e] at h
theorem Nums.below {w w' : World} {b off n : Nat} {Z : Nat → Int} (h : Nums w b off n Z) (k : Below w.heap.size w w') : Nums w' b off n Z := fun i hi => (k.cell (p := ⟨b, off + i, none⟩) (lt_cell (h i hi))).trans (h i hi)
theorem Strs.below {w w' : World} {b off n : Nat} {S : Nat → ByteArray} (h : Strs w b off n S) (k : Below w.heap.size w w') : Strs w' b off n S := fun i hi => (k.cell (p := ⟨b, off + i, none⟩) (lt_cell (h i hi))).trans (h i hi)
theorem info9c : (Tryd.prog.info? 9).map (fun i => (i.zero, i.size, i.bytes)) = some (some (.string ⟨#[]⟩), 1, 16) := info9b
set_option maxRecDepth 20000 in
set_option maxHeartbeats 6400000 in
theorem keysWalkLN (w : World) (b off n cap : Nat) (S : Nat → ByteArray) (hS : Strs w b off n S) (hSl : ∀ i, i < n → (S i).size ≤ maxLen ∧ (S i).size ≤ 281474976710656) (hn : n ≤ maxLen) (c off2 m cap2 : Nat) (Z : Nat → Int) (hZ : Nums w c off2 m Z) (hm : m ≤ maxLen) :
    Calls Tryd.prog 3 #[.agg #[.slice (some ⟨b, off, none⟩) n cap, .slice (some ⟨c, off2, none⟩) m cap2]] w fun e w' => e = .returned (.bool true) ∧ Below w.heap.size w w' := by
  obtain ⟨i0, hi, hz0, hz1, hz2⟩ := info_parts info9c
  obtain ⟨W0, hW0⟩ : ∃ W0, W0 = w.alloc (.cells #[.slice (some ⟨b, off, none⟩) n cap, .slice (some ⟨c, off2, none⟩) m cap2] 25) := ⟨_, rfl⟩
  have hb0 : Below w.heap.size w W0 := by rw [hW0]; exact below1 _ _
  have hx : W0.heap[w.heap.size]? = some (.cells #[.slice (some ⟨b, off, none⟩) n cap, .slice (some ⟨c, off2, none⟩) m cap2] 25) := by rw [hW0]; exact heap_new _ _ rfl
  have hwl : w.heap.size < W0.heap.size := lt_of_heap hx
  replace hS := hS.below hb0
  unfold maxLen at hn
  replace hZ := hZ.below hb0
  unfold maxLen at hm
  have H0 := Lib.hid hW0
  clear hW0
  go_enter Tryd.func3, Tryd.ntmps3
  go_wp2_with (go_at_call 7; rw [← H0.out]; (with_reducible refine (newAt _).mono ?_); rintro e w1 ⟨g, F1, rfl, hb1, d1, m1⟩)
  have K1 : KI W0 w1 g [] [] (.slice none 0 0) F1 := ⟨d1, World.ownsRow_nil _ _ _ _, fun i _ q => by simp [Value.ownBlock] at q, m1, fun i q => by simp [Value.ownBlock] at q, hb1⟩
  clear d1 m1 hb1
  go_loopw [4, 5] (fun s4 s5 wr => ∃ (k : Nat) (A : List ByteArray) (F : Nat → Prop), s5 = .int .i64 k ∧ k ≤ 200 ∧ A.length ≤ k ∧ KI W0 wr g A A s4 F) (fun _ i _ => 200 - (intOf i).toNat)
  case atStart => exact ⟨0, [], F1, rfl, by omega, by simp, K1⟩
  case round =>
    clear K1
    obtain ⟨k, A, F, rfl, hk, hA, K⟩ := hrel
    obtain ⟨p4, cap4, rfl⟩ := row_slice K.r
    have hbx : wr.heap[w.heap.size]? = some (.cells #[.slice (some ⟨b, off, none⟩) n cap, .slice (some ⟨c, off2, none⟩) m cap2] 25) := (K.bel.block _ hwl).trans hx
    have x0 : wr.cell? ⟨w.heap.size, 0, none⟩ = some (.slice (some ⟨b, off, none⟩) n cap) := cell_of hbx 0 rfl
    have x1 : wr.cell? ⟨w.heap.size, 1, none⟩ = some (.slice (some ⟨c, off2, none⟩) m cap2) := cell_of hbx 1 rfl
    by_cases hgo : k < n ∧ k < 200
    · obtain ⟨hkn, hk2⟩ := hgo
      have hsc0 := hS k hkn
      have hbW := lt_cell hsc0
      have hsc := (K.bel.cell (p := ⟨b, off + k, none⟩) hbW).trans hsc0
      obtain ⟨hs1, hs2⟩ := hSl k hkn
      generalize S k = s at *
      have d1 : decide ((k : Int) < 200) = true := by simp; omega
      by_cases hm : s ∈ A
      · obtain ⟨j, hj, hje⟩ := List.getElem_of_mem hm
        have hjs : A[j]? = some s := by rw [List.getElem?_eq_getElem hj, hje]
        have hnd : A.Nodup := by obtain ⟨_, _, _, _, _, _, _, _, _, h5, _⟩ := K.d; exact h5
        have HI := fun W (e : wr = W) => indexYes wr (.slice p4 A.length cap4) A s j K.r hnd hjs (by omega)
        have hix := indexYes wr (.slice p4 A.length cap4) A s j K.r hnd hjs (by omega)
        have hfi := FindYes wr g A F K.d s j hjs hs1
        have hid := IDYes wr g A F K.d s j hjs hs1
        have hle := LenAt wr g A F K.d
        clear hm hje hjs hnd HI hS hSl hbx
        go_wp2_with (first
          | (go_at_call 8; (with_reducible refine hix.mono ?_); rintro e w2 ⟨rfl, rfl⟩)
          | (go_at_call 9; (with_reducible refine hfi.mono ?_); rintro e w2 ⟨rfl, rfl⟩)
          | (go_at_call 10; (with_reducible refine hid.mono ?_); rintro e w2 ⟨rfl, rfl⟩)
          | (go_at_call 11; (with_reducible refine hle.mono ?_); rintro e w2 ⟨rfl, rfl⟩))
        go_roundw
        case rel => exact ⟨k + 1, A, F, by go_num, by omega, by omega, K⟩
        case measure => simp [intOf]; omega
      · have hix := indexNo wr (.slice p4 A.length cap4) A s K.r hm (by omega)
        have hfi := FindNo wr g A F K.d s hm hs1
        have hr4 := K.r
        have HM := Lib.hid hm
        clear hm hS hSl hbx
        go_wp2_with (first
          | (go_at_call 8; (with_reducible refine hix.mono ?_); rintro e w2 ⟨rfl, rfl⟩)
          | (go_at_call 9; (with_reducible refine hfi.mono ?_); rintro e w2 ⟨rfl, rfl⟩)
          | (at_builtin; refine Hid.out ?_))
        refine Lib.hid ?_
        refine wpList_append_own_at _ rfl _ _ 22 rfl 0 9 i0 (.string ⟨#[]⟩) 1 16 Tryd.underlying22 hi hz0 hz1 hz2 rfl (by decide) (.slice p4 A.length cap4) A.length (A.map Value.string) rfl (hr4.alloc _) ⟨wr.heap.size, 0, none⟩ 1 1 [.string s] rfl rfl (cell_one_new _ _ _) ?_ ?_ ?_ ?_ ?_
        all_goals (try (first | (intro u hu; simp at hu; subst hu; rfl) | (unfold maxLen; omega) | omega | (simp; done)))
        intro v' w3 hr hg3 _ hat
        obtain ⟨p5, cap5, rfl⟩ := row_slice hr
        have K3 : KI W0 w3 g A (A ++ [s]) (.slice p5 (A.length + 1) cap5) F := K.all (below1 wr _) hg3 (by simpa using hr) hat
        have y0 : w3.cell? ⟨w.heap.size, 0, none⟩ = some (.slice (some ⟨b, off, none⟩) n cap) := cell_of ((K3.bel.block _ hwl).trans hx) 0 rfl
        have y1 : w3.cell? ⟨b, off + k, none⟩ = some (.string s) := (K3.bel.cell (p := ⟨b, off + k, none⟩) hbW).trans hsc0
        have hid := IDNo w3 g A F K3.d s HM.out hs1 hs2 (by omega)
        clear hr4 hr hg3 hat x0 x1 hsc hix hfi K
        go_wp2_with (first
          | (go_at_call 10; (with_reducible refine hid.mono ?_); rintro e w4 ⟨F4, rfl, d4, t4⟩; have K4 := K3.turn t4 d4; have hle := LenAt w4 g (A ++ [s]) F4 K4.d; rw [List.length_append] at hle)
          | (go_at_call 11; (with_reducible refine hle.mono ?_); rintro e w5 ⟨rfl, rfl⟩))
        go_roundw
        case rel => exact ⟨k + 1, A ++ [s], F4, by go_num, by omega, by simp; omega, K4⟩
        case measure => simp [intOf]; omega
    · by_cases hkn : k < n
      case' pos =>
        have dA : decide (k < n) = true := by simpa using hkn
        have dB : decide ((k : Int) < 200) = false := by simp; omega
      case' neg =>
        have dA : decide (k < n) = false := by simpa using hkn
        have dB : True := trivial
      all_goals
        clear hgo hkn
        go_wp2_with fail
        obtain ⟨wo, rfl⟩ : ∃ wo : World, wo = wr := ⟨_, rfl⟩
        go_loopw [9] (fun s9 wq => ∃ j : Nat, s9 = .int .i64 j ∧ j ≤ 50 ∧ KI W0 wq g A A (.slice p4 A.length cap4) F) (fun i _ => 50 - (intOf i).toNat)
        case atStart => exact ⟨0, rfl, by omega, K⟩
        case round =>
          clear K x0 x1 dA dB hbx
          obtain ⟨j, rfl, hj, K⟩ := hrel
          have hbx : wr.heap[w.heap.size]? = some (.cells #[.slice (some ⟨b, off, none⟩) n cap, .slice (some ⟨c, off2, none⟩) m cap2] 25) := (K.bel.block _ hwl).trans hx
          have x1 : wr.cell? ⟨w.heap.size, 1, none⟩ = some (.slice (some ⟨c, off2, none⟩) m cap2) := cell_of hbx 1 rfl
          by_cases hgo2 : j < m ∧ j < 50
          · obtain ⟨hjm, hj5⟩ := hgo2
            have hzc0 := hZ j hjm
            have hbZ := lt_cell hzc0
            have hzc := (K.bel.cell (p := ⟨c, off2 + j, none⟩) hbZ).trans hzc0
            have e1 : decide ((j : Int) < 50) = true := by simp; omega
            generalize Z j = z at *
            by_cases hzr : 0 ≤ z ∧ z < A.length
            · obtain ⟨hza, hzb⟩ := hzr
              obtain ⟨q, rfl⟩ : ∃ q : Nat, z = q := ⟨z.toNat, by omega⟩
              have hql : q < A.length := by omega
              have hqs : A[q]? = some A[q] := List.getElem?_eq_getElem hql
              generalize A[q] = st at hqs
              obtain ⟨r, cp, e, hce⟩ := text_cell K.r q st hqs
              cases e
              have hke := KeyYes wr g A F K.d q st hqs (by unfold maxLen; omega)
              have e2 : decide (q < A.length) = true := by simpa using hql
              have hrl := lt_cell hce
              clear hqs hza hzb hbx
              go_wp2_with (first
                | (go_at_call 12; (with_reducible refine hke.mono ?_); rintro e w6 ⟨rfl, hb6⟩
                   have K6 := K.below hb6
                   have y1 : w6.cell? ⟨w.heap.size, 1, none⟩ = some (.slice (some ⟨c, off2, none⟩) m cap2) := cell_of ((K6.bel.block _ hwl).trans hx) 1 rfl
                   have y2 : w6.cell? ⟨c, off2 + j, none⟩ = some (.int .i64 q) := (K6.bel.cell (p := ⟨c, off2 + j, none⟩) hbZ).trans hzc0
                   have y3 : w6.cell? ⟨r, q, none⟩ = some (.string st) := (hb6.cell (p := ⟨r, q, none⟩) hrl).trans hce
                   clear x1 hzc hce))
              go_roundw
              case rel => exact ⟨j + 1, by go_num, by omega, K6⟩
              case measure => simp [intOf]; omega
            · have hke := KeyNo wr g A F K.d z (by omega)
              by_cases hz0 : 0 ≤ z
              case' pos =>
                have e2 : decide (0 ≤ z) = true := by simpa using hz0
                have e3 : decide (z < (A.length : Int)) = false := by simp; omega
              case' neg =>
                have e2 : decide (0 ≤ z) = false := by simpa using hz0
                have e3 : True := trivial
              all_goals
                clear hz0 hzr hbx
                go_wp2_with (first
                  | (go_at_call 12; (with_reducible refine hke.mono ?_); rintro e w6 ⟨rfl, hb6⟩
                     have K6 := K.below hb6
                     have y1 : w6.cell? ⟨w.heap.size, 1, none⟩ = some (.slice (some ⟨c, off2, none⟩) m cap2) := cell_of ((K6.bel.block _ hwl).trans hx) 1 rfl
                     have y2 : w6.cell? ⟨c, off2 + j, none⟩ = some (.int .i64 z) := (K6.bel.cell (p := ⟨c, off2 + j, none⟩) hbZ).trans hzc0
                     clear x1 hzc))
                go_roundw
                case rel => exact ⟨j + 1, by go_num, by omega, K6⟩
                case measure => simp [intOf]; omega
          · by_cases hjm : j < m
            case' pos =>
              have dA : decide (j < m) = true := by simpa using hjm
              have dB : decide ((j : Int) < 50) = false := by simp; omega
            case' neg =>
              have dA : decide (j < m) = false := by simpa using hjm
              have dB : True := trivial
            all_goals
              clear hgo2 hjm
              go_wp2_with (go_at_call 13; (with_reducible refine (wakesAt _).mono ?_); rintro e w9 ⟨rfl, hb9⟩)
              go_ret
              exact ⟨rfl, below_any (below_any hb0 K.bel hb0.size) hb9 (Nat.le_trans hb0.size K.bel.size)⟩
end Go.Proofs.YtffbcccbhofbpaaDoor
