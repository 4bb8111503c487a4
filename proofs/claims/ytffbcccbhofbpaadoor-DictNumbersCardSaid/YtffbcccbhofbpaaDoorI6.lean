/- The law of numbers, walked. -/
import Derived.Test.YtffbcccbhofbpaaDoorI5
import Derived.Test.YtffbcccbhofbpaaDoorI2
import Derived.Test.YtffbcccbhofbpaaDoorI7
import Derived.Test.YtffbcccbhofbpaaDoorF2
import Derived.BigGuardPart
import Derived.Deep.LoopGhost
import Derived.Deep.Cut
import Derived.Deep.CutBlock
import Derived.Deep.DeepCutAuto
import Derived.Deep.RegionWith
import Derived.Deep.QuietTactic
import Derived.BigQuiet
namespace Go.Proofs.YtffbcccbhofbpaaDoor
open Go.RowKit

/-- Three dictionaries, apart. -/
structure NI (W0 w : World) (ga gb gc : Nat) (A B C : List Int) (Fa Fb Fc : Nat → Prop) : Prop where
  a : DicI w ga A Fa
  b : DicP w gb B Fb
  c : Dic w gc (C.map numT) Fc
  ab : ∀ i, Fa i → ¬ Fb i
  ac : ∀ i, Fa i → ¬ Fc i
  bc : ∀ i, Fb i → ¬ Fc i
  la : ∀ i, Fa i → W0.heap.size ≤ i
  lb : ∀ i, Fb i → W0.heap.size ≤ i
  lc : ∀ i, Fc i → W0.heap.size ≤ i
  bel : Below W0.heap.size W0 w
section
variable {W0 w w' : World} {ga gb gc : Nat} {A A' B B' C C' : List Int} {Fa Fb Fc F' : Nat → Prop}
theorem NI.turnA (h : NI W0 w ga gb gc A B C Fa Fb Fc) (t : Turn Fa F' w w') (d : DicI w' ga A' F') : NI W0 w' ga gb gc A' B C F' Fb Fc :=
  ⟨d, h.b.ch t.ch (fun i q p => h.ab i p q), h.c.ch t.ch (fun i q p => h.ac i p q), turn_apart t h.ab (fun _ => h.b.lt), turn_apart t h.ac (fun _ => h.c.lt), h.bc, turn_low t h.bel.size h.la, h.lb, h.lc, h.bel.trans (t.ch.below h.bel.size h.la)⟩
theorem NI.turnB (h : NI W0 w ga gb gc A B C Fa Fb Fc) (t : Turn Fb F' w w') (d : DicP w' gb B' F') : NI W0 w' ga gb gc A B' C Fa F' Fc :=
  ⟨h.a.ch t.ch h.ab, d, h.c.ch t.ch (fun i q p => h.bc i p q), fun i p q => turn_apart t (fun i p q => h.ab i q p) (fun _ => h.a.lt) i q p, h.ac, turn_apart t h.bc (fun _ => h.c.lt), h.la, turn_low t h.bel.size h.lb, h.lc, h.bel.trans (t.ch.below h.bel.size h.lb)⟩
theorem NI.turnC (h : NI W0 w ga gb gc A B C Fa Fb Fc) (t : Turn Fc F' w w') (d : Dic w' gc (C'.map numT) F') : NI W0 w' ga gb gc A B C' Fa Fb F' :=
  ⟨h.a.ch t.ch h.ac, h.b.ch t.ch h.bc, d, h.ab, fun i p q => turn_apart t (fun i p q => h.ac i q p) (fun _ => h.a.lt) i q p, fun i p q => turn_apart t (fun i p q => h.bc i q p) (fun _ => h.b.lt) i q p, h.la, h.lb, turn_low t h.bel.size h.lc, h.bel.trans (t.ch.below h.bel.size h.lc)⟩
theorem NI.below (h : NI W0 w ga gb gc A B C Fa Fb Fc) (b : Below w.heap.size w w') : NI W0 w' ga gb gc A B C Fa Fb Fc :=
  ⟨h.a.below b, h.b.below b, h.c.below b, h.ab, h.ac, h.bc, h.la, h.lb, h.lc, below_any h.bel b h.bel.size⟩
end
theorem numT_size (z : Int) (h0 : -9223372036854775808 ≤ z) (h1 : z < 9223372036854775808) : (numT z).size ≤ 30 := by
  have e : (numT z).size = (if z < 0 then 45 :: natT (-z).toNat else natT z.toNat).length := by
    unfold numT; simp [ByteArray.size]
  rw [e]
  split
  · have := natT_short 19 (-z).toNat (by omega)
    simp; omega
  · have := natT_short 19 z.toNat (by omega)
    omega
theorem wf_range {z : Int} (h : (Lit.int .i64 z).wf = true) : -9223372036854775808 ≤ z ∧ z < 9223372036854775808 := by
  have e1 : IntKind.i64.min = -9223372036854775808 := by decide
  have e2 : IntKind.i64.max = 9223372036854775807 := by decide
  unfold Lit.wf at h
  simp only [e1, e2, Bool.and_eq_true, decide_eq_true_eq] at h
  omega
set_option maxRecDepth 20000 in
set_option maxHeartbeats 6400000 in
theorem numbersWalkN (w : World) (L : Value) (c off2 m cap2 : Nat) (Z : Nat → Int) (hZ : Nums w c off2 m Z) (hZw : ∀ i, i < m → (Lit.int .i64 (Z i)).wf = true) (hm : m ≤ maxLen) :
    Calls Tryd.prog 4 #[.agg #[L, .slice (some ⟨c, off2, none⟩) m cap2]] w fun e w' => e = .returned (.bool true) ∧ Below w.heap.size w w' := by
  obtain ⟨W0, hW0⟩ : ∃ W0, W0 = w.alloc (.cells #[L, .slice (some ⟨c, off2, none⟩) m cap2] 25) := ⟨_, rfl⟩
  have hb0 : Below w.heap.size w W0 := by rw [hW0]; exact below1 _ _
  have hx : W0.heap[w.heap.size]? = some (.cells #[L, .slice (some ⟨c, off2, none⟩) m cap2] 25) := by rw [hW0]; exact heap_new _ _ rfl
  have hwl : w.heap.size < W0.heap.size := lt_of_heap hx
  replace hZ := hZ.below hb0
  unfold maxLen at hm
  have H0 := Lib.hid hW0
  clear hW0
  go_enter Tryd.func4, Tryd.ntmps4
  go_wp2_with (first
    | (go_at_call 14; rw [← H0.out]; (with_reducible refine (newAtI _).mono ?_); rintro e w1 ⟨ga, F1, rfl, hb1, d1, m1⟩)
    | (go_at_call 15; (with_reducible refine (newAtP _).mono ?_); rintro e w2 ⟨gb, F2, rfl, hb2, d2, m2⟩)
    | (go_at_call 7; (with_reducible refine (newAt _).mono ?_); rintro e w3 ⟨gc, F3, rfl, hb3, d3, m3⟩))
  have s1 := hb1.size
  have s2 := hb2.size
  have K1 : NI W0 w3 ga gb gc [] [] [] F1 F2 F3 :=
    ⟨(d1.below hb2).below hb3, d2.below hb3, d3, fun i p q => by have := d1.lt p; have := m2 i q; omega, fun i p q => by have := d1.lt p; have := m3 i q; omega, fun i p q => by have := d2.lt p; have := m3 i q; omega,
      m1, fun i q => by have := m2 i q; omega, fun i q => by have := m3 i q; omega, below_any (below_any hb1 hb2 hb1.size) hb3 (Nat.le_trans s1 s2)⟩
  clear d1 d2 d3 m1 m2 m3 hb1 hb2 hb3 s1 s2
  go_loopw [6] (fun s6 wr => ∃ (k : Nat) (A : List Int) (Fa Fb Fc : Nat → Prop), s6 = .int .i64 k ∧ k ≤ 200 ∧ A.length ≤ k ∧ NI W0 wr ga gb gc A A A Fa Fb Fc) (fun i _ => 200 - (intOf i).toNat)
  case atStart => exact ⟨0, [], F1, F2, F3, rfl, by omega, by simp, K1⟩
  case round =>
    clear K1
    obtain ⟨k, A, Fa, Fb, Fc, rfl, hk, hA, K⟩ := hrel
    have x1 : wr.cell? ⟨w.heap.size, 1, none⟩ = some (.slice (some ⟨c, off2, none⟩) m cap2) := cell_of ((K.bel.block _ hwl).trans hx) 1 rfl
    by_cases hgo : k < m ∧ k < 200
    · obtain ⟨hkm, hk2⟩ := hgo
      have hzc0 := hZ k hkm
      have hbZ := lt_cell hzc0
      have hzc := (K.bel.cell (p := ⟨c, off2 + k, none⟩) hbZ).trans hzc0
      have hw := hZw k hkm
      obtain ⟨hr0, hr1⟩ := wf_range hw
      have d1 : decide ((k : Int) < 200) = true := by simp; omega
      generalize Z k = z at *
      by_cases hm : z ∈ A
      · obtain ⟨j, hj, hje⟩ := List.getElem_of_mem hm
        have hjs : A[j]? = some z := by rw [List.getElem?_eq_getElem hj, hje]
        have hjt : (A.map numT)[j]? = some (numT z) := by rw [List.getElem?_map, hjs]; rfl
        have hsz := numT_size z hr0 hr1
        have hia := IDYesI wr ga A Fa K.a z j hjs hw
        have hib := IDYesP wr gb A Fb K.b z j hjs hw
        have hnum := fun W => numberOf z hr0 hr1 W
        clear hm hje hZ hZw
        go_wp2_with (first
          | (go_at_call 16; (with_reducible refine hia.mono ?_); rintro e w2 ⟨rfl, rfl⟩)
          | (go_at_call 17; (with_reducible refine hib.mono ?_); rintro e w2 ⟨rfl, hb2⟩
             have K2 := K.below hb2
             have y1 : w2.cell? ⟨w.heap.size, 1, none⟩ = some (.slice (some ⟨c, off2, none⟩) m cap2) := cell_of ((K2.bel.block _ hwl).trans hx) 1 rfl
             have y2 : w2.cell? ⟨c, off2 + k, none⟩ = some (.int .i64 z) := (K2.bel.cell (p := ⟨c, off2 + k, none⟩) hbZ).trans hzc0)
          | (go_at_call 18; (with_reducible refine (hnum _).mono ?_); rintro e w3 ⟨rfl, hb3⟩
             have K4 := K2.below hb3
             have hic := IDYes w3 gc _ Fc K4.c _ j hjt (by unfold maxLen; omega)
             have hka := KeyYesI w3 ga A Fa K4.a j z hjs (by unfold maxLen; omega))
          | (go_at_call 10; (with_reducible refine hic.mono ?_); rintro e w4 ⟨rfl, rfl⟩)
          | (go_at_call 19; (with_reducible refine hka.mono ?_); rintro e w5 ⟨rfl, hb5⟩
             have K5 := K4.below hb5
             have hkb := KeyYesP w5 gb A Fb K5.b j z hjs (by omega))
          | (go_at_call 20; (with_reducible refine hkb.mono ?_); rintro e w6 ⟨rfl, hb6⟩
             have K6 := K5.below hb6))
        obtain ⟨W7, hW7⟩ : ∃ W7, W7 = w6.alloc (.cells #[.int .i64 z, .int .i64 7] 41) := ⟨_, rfl⟩
        rw [← hW7]
        have hb7 : Below w6.heap.size w6 W7 := by rw [hW7]; exact below1 _ _
        have hy : W7.heap[w6.heap.size]? = some (.cells #[.int .i64 z, .int .i64 7] 41) := by rw [hW7]; exact heap_new _ _ rfl
        have K7 := K6.below hb7
        have q0 : W7.cell? ⟨w6.heap.size, 0, none⟩ = some (.int .i64 z) := cell_of hy 0 rfl
        have q1 : W7.cell? ⟨w6.heap.size, 1, none⟩ = some (.int .i64 7) := cell_of hy 1 rfl
        have q2 : W7.cell? ⟨w.heap.size, 1, none⟩ = some (.slice (some ⟨c, off2, none⟩) m cap2) := cell_of ((K7.bel.block _ hwl).trans hx) 1 rfl
        have q3 : W7.cell? ⟨c, off2 + k, none⟩ = some (.int .i64 z) := (K7.bel.cell (p := ⟨c, off2 + k, none⟩) hbZ).trans hzc0
        clear hW7 hy hb7
        go_cut [1, 3, 4, 5, 6, 101] (fun s1 s3 s4 s5 s6 s101 wx => s1 = .pointer (some ⟨w.heap.size, 0, none⟩) ∧ s3 = .pointer (some ⟨ga, 0, none⟩) ∧ s4 = .pointer (some ⟨gb, 0, none⟩) ∧ s5 = .pointer (some ⟨gc, 0, none⟩) ∧ s6 = .int .i64 k ∧ s101 = .bool false ∧ ∃ nn, wx = W7.drewN nn)
        case first =>
          have g41 := guardAgg41
          have n41 := neq41 z
          go_quiet (fail)
          all_goals
            go_wp2_with fail
            go_meet
            case rel => exact ⟨rfl, rfl, rfl, rfl, rfl, rfl, _, rfl⟩
        case rest =>
          obtain ⟨rfl, rfl, rfl, rfl, rfl, rfl, nn, rfl⟩ := hcut
          go_wp2_with fail
          have K8 : NI W0 (W7.drewN nn) ga gb gc A A A Fa Fb Fc := K7.below (below_drewN (Below.refl _ _) nn)
          go_roundw
          case rel => exact ⟨k + 1, A, Fa, Fb, Fc, by go_num, by omega, by omega, K8⟩
          case measure => simp [intOf]; omega
      · have hnt : numT z ∉ A.map numT := fun q => by
          obtain ⟨y, hy, e⟩ := List.mem_map.1 q
          exact hm (numT_inj _ _ e ▸ hy)
        have hjs : (A ++ [z])[A.length]? = some z := by simp
        have hsz := numT_size z hr0 hr1
        have hia := IDNoI wr ga A Fa K.a z hm hw (by omega)
        have hnum := fun W => numberOf z hr0 hr1 W
        have HM := Lib.hid hm
        have HN := Lib.hid hnt
        clear hm hnt hZ hZw
        go_wp2_with (first
          | (go_at_call 16; (with_reducible refine hia.mono ?_); rintro e w1 ⟨Ga, rfl, dA, tA⟩
             have K1 := K.turnA tA dA
             have hib := IDNoP w1 gb A Fb K1.b z HM.out hw (by omega)
             have y1 : w1.cell? ⟨w.heap.size, 1, none⟩ = some (.slice (some ⟨c, off2, none⟩) m cap2) := cell_of ((K1.bel.block _ hwl).trans hx) 1 rfl
             have y2 : w1.cell? ⟨c, off2 + k, none⟩ = some (.int .i64 z) := (K1.bel.cell (p := ⟨c, off2 + k, none⟩) hbZ).trans hzc0)
          | (go_at_call 17; (with_reducible refine hib.mono ?_); rintro e w2 ⟨Gb, rfl, dB, tB⟩
             have K2 := K1.turnB tB dB
             have y3 : w2.cell? ⟨w.heap.size, 1, none⟩ = some (.slice (some ⟨c, off2, none⟩) m cap2) := cell_of ((K2.bel.block _ hwl).trans hx) 1 rfl
             have y4 : w2.cell? ⟨c, off2 + k, none⟩ = some (.int .i64 z) := (K2.bel.cell (p := ⟨c, off2 + k, none⟩) hbZ).trans hzc0)
          | (go_at_call 18; (with_reducible refine (hnum _).mono ?_); rintro e w3 ⟨rfl, hb3⟩
             have K3 := K2.below hb3
             have hic := IDNo w3 gc _ Fc K3.c _ HN.out (by unfold maxLen; omega) (by omega) (by simp; omega)
             rw [List.length_map] at hic)
          | (go_at_call 10; (with_reducible refine hic.mono ?_); rintro e w4 ⟨Gc, rfl, dC, tC⟩
             have K4 := K3.turnC (C' := A ++ [z]) tC (by rw [List.map_append]; exact dC)
             have hka := KeyYesI w4 ga (A ++ [z]) Ga K4.a A.length z hjs (by unfold maxLen; simp; omega))
          | (go_at_call 19; (with_reducible refine hka.mono ?_); rintro e w5 ⟨rfl, hb5⟩
             have K5 := K4.below hb5
             have hkb := KeyYesP w5 gb (A ++ [z]) Gb K5.b A.length z hjs (by simp; omega))
          | (go_at_call 20; (with_reducible refine hkb.mono ?_); rintro e w6 ⟨rfl, hb6⟩
             have K6 := K5.below hb6))
        obtain ⟨W7, hW7⟩ : ∃ W7, W7 = w6.alloc (.cells #[.int .i64 z, .int .i64 7] 41) := ⟨_, rfl⟩
        rw [← hW7]
        have hb7 : Below w6.heap.size w6 W7 := by rw [hW7]; exact below1 _ _
        have hy : W7.heap[w6.heap.size]? = some (.cells #[.int .i64 z, .int .i64 7] 41) := by rw [hW7]; exact heap_new _ _ rfl
        have K7 := K6.below hb7
        have q0 : W7.cell? ⟨w6.heap.size, 0, none⟩ = some (.int .i64 z) := cell_of hy 0 rfl
        have q1 : W7.cell? ⟨w6.heap.size, 1, none⟩ = some (.int .i64 7) := cell_of hy 1 rfl
        have q2 : W7.cell? ⟨w.heap.size, 1, none⟩ = some (.slice (some ⟨c, off2, none⟩) m cap2) := cell_of ((K7.bel.block _ hwl).trans hx) 1 rfl
        have q3 : W7.cell? ⟨c, off2 + k, none⟩ = some (.int .i64 z) := (K7.bel.cell (p := ⟨c, off2 + k, none⟩) hbZ).trans hzc0
        clear hW7 hy hb7
        go_cut [1, 3, 4, 5, 6, 101] (fun s1 s3 s4 s5 s6 s101 wx => s1 = .pointer (some ⟨w.heap.size, 0, none⟩) ∧ s3 = .pointer (some ⟨ga, 0, none⟩) ∧ s4 = .pointer (some ⟨gb, 0, none⟩) ∧ s5 = .pointer (some ⟨gc, 0, none⟩) ∧ s6 = .int .i64 k ∧ s101 = .bool false ∧ ∃ nn, wx = W7.drewN nn)
        case first =>
          have g41 := guardAgg41
          have n41 := neq41 z
          go_quiet (fail)
          all_goals
            go_wp2_with fail
            go_meet
            case rel => exact ⟨rfl, rfl, rfl, rfl, rfl, rfl, _, rfl⟩
        case rest =>
          obtain ⟨rfl, rfl, rfl, rfl, rfl, rfl, nn, rfl⟩ := hcut
          go_wp2_with fail
          have K8 : NI W0 (W7.drewN nn) ga gb gc (A ++ [z]) (A ++ [z]) (A ++ [z]) Ga Gb Gc := K7.below (below_drewN (Below.refl _ _) nn)
          go_roundw
          case rel => exact ⟨k + 1, (A ++ [z]), Ga, Gb, Gc, by go_num, by omega, by simp; omega, K8⟩
          case measure => simp [intOf]; omega
    · have hia := LenAtI wr ga A Fa K.a
      have hib := LenAtP wr gb A Fb K.b
      have hic := LenAt wr gc _ Fc K.c
      rw [List.length_map] at hic
      by_cases hkm : k < m
      case' pos =>
        have dA : decide (k < m) = true := by simpa using hkm
        have dB : decide ((k : Int) < 200) = false := by simp; omega
      case' neg =>
        have dA : decide (k < m) = false := by simpa using hkm
        have dB : True := trivial
      all_goals
        clear hgo hkm
        go_wp2_with (first
          | (go_at_call 21; (with_reducible refine hia.mono ?_); rintro e w2 ⟨rfl, rfl⟩)
          | (go_at_call 22; (with_reducible refine hib.mono ?_); rintro e w2 ⟨rfl, rfl⟩)
          | (go_at_call 11; (with_reducible refine hic.mono ?_); rintro e w2 ⟨rfl, rfl⟩)
          | (go_at_call 13; (with_reducible refine (wakesAt _).mono ?_); rintro e w9 ⟨rfl, hb9⟩))
        go_ret
        exact ⟨rfl, below_any (below_any hb0 K.bel hb0.size) hb9 (Nat.le_trans hb0.size K.bel.size)⟩
end Go.Proofs.YtffbcccbhofbpaaDoor
