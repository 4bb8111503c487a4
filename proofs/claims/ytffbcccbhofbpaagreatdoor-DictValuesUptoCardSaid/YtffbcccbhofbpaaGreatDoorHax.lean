/- Texts of one kind, one behind the other: each says ahead of itself what it shows. -/
import Derived.Test.YtffbcccbhofbpaaGreatDoorHaw
import Derived.Test.YtffbcccbhofbpaaGreatDoorHaj
/- The law DictValues, walked. -/
namespace Go.Proofs.YtffbcccbhofbpaaGreatDoor
open Go.RowKit

/-- Numbers in a row, as read. -/
def Nums (w : World) (b off n : Nat) (Z : Nat → Int) : Prop := ∀ i, i < n → w.cell? ⟨b, off + i, none⟩ = some (.int .i64 (Z i))
def NumsAt (w : World) (pN : Option Addr) (nN : Nat) (Z : Nat → Int) : Prop := 0 < nN → ∃ b off, pN = some ⟨b, off, none⟩ ∧ Nums w b off nN Z
theorem own_slice {w : World} {base : Nat} {e : TypeId} {s : Nat} {v : Value} {n : Nat} {xs : List Value} (h : w.ownsRow base e s v n xs) : ∃ p cap, v = .slice p n cap := by
  rcases h.2 with ⟨rfl, rfl⟩ | ⟨g, cap, cur, rfl, _⟩
  · exact ⟨_, _, rfl⟩
  · exact ⟨_, _, rfl⟩
theorem vok_snoc {al : List Val} {v : Val} (h : ∀ u ∈ al, VOk u) (hv : VOk v) : ∀ u ∈ al ++ [v], VOk u := fun u hu => by
  rcases List.mem_append.1 hu with h1 | h1
  · exact h u h1
  · simp at h1
    rw [h1]
    exact hv
theorem info31b : (Tryz.prog.info? 31).map (fun i => (i.zero, i.size, i.bytes)) = some (some (.agg #[.int .i64 0, .bool false, .int .i64 0, .string ⟨#[]⟩, .string ⟨#[]⟩, .slice none 0 0]), 6, 80) := by kernel_rfl

set_option maxRecDepth 200000 in
set_option maxHeartbeats 40000000 in
theorem valuesLaw (l : List Val) (pL : Option Addr) (capL : Nat) (pN : Option Addr) (nN capN : Nat) (Z : Nat → Int) (w : World) (hG : Gd w) (hl : Held w (.slice pL l.length capL) l) (hn : l.length ≤ 1048576) (hw : wAll l ≤ 1048576) (hN : NumsAt w pN nN Z) (hnN : nN ≤ maxLen) :
    Calls Tryz.prog 3 #[.agg #[.slice pL l.length capL, .slice pN nN capN]] w fun e w' => e = .returned (.bool true) ∧ Below w.heap.size w w' := by
  obtain ⟨i0, hi, hz0, hz1, hz2⟩ := info_parts info31b
  obtain ⟨W1, hW1⟩ : ∃ W1, W1 = w.alloc (.cells #[.slice pL l.length capL, .slice pN nN capN] 25) := ⟨_, rfl⟩
  have c10 : W1.cell? ⟨w.heap.size, 0, none⟩ = some (.slice pL l.length capL) := by rw [hW1]; exact cell_of (heap_new _ _ rfl) _ rfl
  have c11 : W1.cell? ⟨w.heap.size, 1, none⟩ = some (.slice pN nN capN) := by rw [hW1]; exact cell_of (heap_new _ _ rfl) _ rfl
  have b1 : Below w.heap.size w W1 := by rw [hW1]; exact below1 _ _
  have l1 : w.heap.size < W1.heap.size := by rw [hW1]; simp
  have hsz := size_list l pL capL W1 (Held.below l hl b1) (by omega) (sizeEach l)
  obtain ⟨sz, hszz⟩ : ∃ sz, sz = sizeAll l 0 := ⟨_, rfl⟩
  rw [← hszz] at hsz
  have hwk : ∀ W, Below w.heap.size w W → Calls Tryz.prog 5 #[] W fun e w' => e = .returned (.bool true) ∧ Below W.heap.size W w' := fun W h => wakesAt W (hG.below h)
  obtain ⟨n, hln⟩ : ∃ n, n = l.length := ⟨_, rfl⟩
  rw [← hln] at hn hsz hW1 c10 ⊢
  have HW1 := Lib.hid hW1
  have HL := Lib.hid hln
  have HH := Lib.hid hl
  have HGG := Lib.hid hG
  have HNN := Lib.hid hN
  have HWT := Lib.hid hw
  clear hl hln hW1 hG hN hw hszz
  go_enter Tryz.func3, Tryz.ntmps3
  by_cases h2k : (2000 : Int) < sz
  · go_wp2_with (first
      | (go_at_call 4; rw [← HW1.out]; (with_reducible refine hsz.mono ?_); rintro e w2 ⟨rfl, m, hm⟩; have b2 : Below w.heap.size w w2 := (by rw [hm]; exact below_drewN b1 m); clear hm)
      | (go_at_call 5; (with_reducible refine (hwk _ b2).mono ?_); rintro e w' ⟨rfl, hb⟩; have b3 := below_any b2 hb b2.size))
    go_ret
    exact ⟨rfl, b3⟩
  go_wp2_with (first
    | (go_at_call 4; rw [← HW1.out]; (with_reducible refine hsz.mono ?_); rintro e w2 ⟨rfl, m, hm⟩; have HM := Lib.hid hm; clear hm)
    | (go_at_call 6; (with_reducible refine (newValues _).mono ?_); rintro e w3 ⟨g0, F0, rfl, hb3, hd3, hf3⟩))
  have I0 : DInv w (.slice pL n capL) (.slice pN nN capN) g0 [] [] (.slice none 0 0) F0 [] w3 := by
    have e2 : w2.heap = W1.heap := by rw [HM.out]; rfl
    have b2 : Below w.heap.size w w2 := by rw [HM.out]; exact below_drewN b1 m
    have z2 : w.heap.size < w2.heap.size := by rw [e2]; exact l1
    have hb : w3.heap[w.heap.size]? = W1.heap[w.heap.size]? := (hb3.block _ z2).trans (by rw [e2])
    exact ⟨(World.cell?_of_block (a := ⟨w.heap.size, 0, none⟩) hb).trans c10, (World.cell?_of_block (a := ⟨w.heap.size, 1, none⟩) hb).trans c11, Nat.lt_of_lt_of_le z2 hb3.size, below_any b2 hb3 b2.size, hd3, fun i f => Nat.lt_of_lt_of_le z2 (hf3 i f), World.ownsRow_nil _ _ _ _, fun i h => by simp [Value.ownBlock] at h, by unfold CellsH; rfl⟩
  clear hsz c10 c11 b1 l1 HM HW1 hb3 hd3 hf3
  have i00 := I0.cell
  go_loopg [4, 5] n (fun gg s4 s5 wr => ∃ (j : Nat) (al : List Val) (pA : Option Addr) (capA : Nat) (F : Nat → Prop) (xs : List Value), j + gg = n ∧ s5 = .int .i64 j ∧ s4 = .slice pA al.length capA ∧ al.length ≤ j ∧ Hid (∀ v ∈ al, VOk v) ∧ Hid al.Nodup ∧ DInv w (.slice pL n capL) (.slice pN nN capN) g0 al al (.slice pA al.length capA) F xs wr)
  case atStart => exact ⟨0, [], none, 0, F0, [], by omega, rfl, rfl, by simp, Lib.hid (by simp), Lib.hid List.nodup_nil, I0⟩
  case round =>
    clear I0 i00
    obtain ⟨j, al, pA, capA, F, xs, hjg, rfl, rfl, haj, HV, HD, I⟩ := hrel
    have hp := I.cell
    by_cases hlt : (j : Int) < n
    · by_cases h60 : (j : Int) < 60
      · have hj1 : j < l.length := by have := HL.out; omega
        obtain ⟨g, off, rfl, hh⟩ : ∃ g off, pL = some ⟨g, off, none⟩ ∧ Holds w g off l := heldSome (cap := capL) (by rw [HL.out] at *; exact HH.out) (by omega)
        obtain ⟨k, b, m, t, x, q, p, cp, o10⟩ := (Holds.at_ l off hh j hj1).opens
        have HO := Lib.hid o10
        have e0 := o10.e
        have hfi : fineV l[j] := HoldsOne.fine l[j] (Holds.at_ l off hh j hj1)
        have hwt : 13 * wOne l[j] ≤ 800000000 := by
          have h1 := wAll_mem (List.getElem_mem hj1)
          have h2 := HWT.out
          omega
        obtain ⟨v, hv⟩ : ∃ v, v = l[j] := ⟨_, rfl⟩
        rw [← hv] at e0 hfi hwt
        have HVV := Lib.hid (And.intro e0 (And.intro hfi hwt))
        clear o10 hh e0 hfi hwt hv
        have d := HO.out.below I.bel
        have d0 := d.c0
        have d1 := d.c1
        have d2 := d.c2
        have d3 := d.c3
        have d4 := d.c4
        have d5 := d.c5
        have hcp := tcopyAt k b m t x q p cp wr d.hf d.hl
        unfold RValT at hcp
        have HI := Lib.hid I
        clear d I
        go_upto_region 11 with (first
          | ((with_reducible refine wpList_loadMid6 (.tmp 38) g (off + j * 6) k b m t x (.slice p q.length cp) d0 d1 d2 d3 d4 d5 ?_ ?_ ?_ ?_); rfl; rfl; rfl)
          | (go_at_call 7; (with_reducible refine hcp.mono ?_); rintro e w3 ⟨pa, ca, rfl, hq3, hb3⟩; have HQ3 := Lib.hid (And.intro hq3 hb3); clear hq3 hb3 hcp d0 d1 d2 d3 d4 d5))
        obtain ⟨A0, hA0⟩ : ∃ A0, A0 = w3.alloc (.cells #[.int .i64 k, .bool b, .int .i64 m, .string t, .string x, .slice pa q.length ca] 31) := ⟨_, rfl⟩
        obtain ⟨ea, hea⟩ : ∃ ea, ea = w3.heap.size := ⟨_, rfl⟩
        rw [← hA0, ← hea]
        have zA : w3.heap.size < A0.heap.size := by rw [hA0]; simp
        have z3 : wr.heap.size ≤ w3.heap.size := HQ3.out.2.size
        have ba0 : Below wr.heap.size wr A0 := by rw [hA0]; exact HQ3.out.2.alloc HQ3.out.2.size _
        have S6 : Six A0 ea k b m t x pa q.length ca := by rw [hA0, hea]; exact six_new _ rfl
        have hqT : HeldT A0 wr.heap.size w3.heap.size (.slice pa q.length ca) q := HeldT.stays (fun i _ a => by rw [hA0]; exact Below.heap_alloc _ _ _ a) q HQ3.out.1
        have I1 := HI.out.step ba0
        have HLT := Lib.hid HI.out.lt
        have HFL : Hid (∀ i, F i → i < wr.heap.size) := Lib.hid fun i f => HI.out.dic.lt f
        have HAL : Hid (∀ i, (Value.slice pA al.length capA).ownBlock = some i → i < wr.heap.size) := Lib.hid fun i h => (HI.out.row.lt i h).2
        have HQT := Lib.hid (And.intro hqT (And.intro zA z3))
        have HEA : Hid (wr.heap.size ≤ ea) := Lib.hid (by rw [hea]; exact z3)
        clear hA0 hea HQ3 ba0 hqT zA z3 hp HI
        cases hm : mayP v 0 with
        | false =>
          have hid := vidBad v k b m t x q pa ca A0 (HGG.out.below I1.bel) HVV.out.1 HO.out.hf (HeldT.held q HQT.out.1) HVV.out.2.2 hm (.pointer (some ⟨g0, 0, none⟩))
          have hmy : ∀ W, Below w.heap.size w W → Calls Tryz.prog 10 #[.agg #[.int .i64 k, .bool b, .int .i64 m, .string t, .string x, .slice p q.length cp]] W fun e w' => e = .returned (.bool false) ∧ Below W.heap.size W w' := fun W h => by
            have := refMay k b m t x q p cp W HO.out.hf (HO.out.below h).hl
            rw [← HVV.out.1, hm] at this
            exact this
          have HMY := Lib.hid hmy
          clear hmy hm
          go_upto_region 12 with (first
            | ((with_reducible refine wpList_load6 (.tmp 6) ea S6 ?_ ?_ ?_ ?_); rfl; rfl; rfl)
            | (go_at_call 8; (with_reducible refine hid.mono ?_); rintro e w4 ⟨rfl, hb4⟩; have HB4 := Lib.hid hb4; clear hb4))
          have I2 := I1.step HB4.out
          replace S6 := S6.below HB4.out
          have hov := overValue k b m t x q pa ca wr.heap.size w3.heap.size w4 HO.out.hf.hn (HeldT.stays (fun i _ a => HB4.out.block i (by have := HQT.out.2.1; omega)) q HQT.out.1) (by have := HQT.out.2.1; have := HB4.out.size; omega)
          unfold OverPost at hov
          have hI3 : ∀ W, Wrote wr.heap.size w3.heap.size w4 W → DInv w (.slice (some ⟨g, off, none⟩) n capL) (.slice pN nN capN) g0 al al (.slice pA al.length capA) F xs W := fun W h => I2.wrote h HLT.out (fun i f => by have := HFL.out i f; omega) (fun i f => by have := HAL.out i f; omega)
          have HI3 := Lib.hid hI3
          clear hid hI3 HB4 I1 I2
          go_upto_region 13 with (first
            | ((with_reducible refine wpList_load6 (.tmp 6) ea S6 ?_ ?_ ?_ ?_); rfl; rfl; rfl)
            | (go_at_call 9; (with_reducible refine hov.mono ?_); rintro e w5 ⟨rfl, hw5⟩; have I3 := HI3.out _ hw5; clear hw5))
          clear hov S6 HI3
          have hp := I3.cell
          have d := HO.out.below I3.bel
          have d0 := d.c0
          have d1 := d.c1
          have d2 := d.c2
          have d3 := d.c3
          have d4 := d.c4
          have d5 := d.c5
          clear d
          have hln : ∀ W, DInv w (.slice (some ⟨g, off, none⟩) n capL) (.slice pN nN capN) g0 al al (.slice pA al.length capA) F xs W → Calls Tryz.prog 11 #[.pointer (some ⟨g0, 0, none⟩)] W fun e w' => e = .returned (.int .i64 al.length) ∧ W = w' := fun W h => by
            have := valuesLen W g0 (al.map encS) F h.dic
            rwa [List.length_map] at this
          have HLN := Lib.hid hln
          have q9 : ((al.length : Int) != al.length) = false := by simp
          clear hln
          go_wp2_with (first
            | ((with_reducible refine wpList_loadMid6 (.tmp 52) g (off + j * 6) k b m t x (.slice p q.length cp) d0 d1 d2 d3 d4 d5 ?_ ?_ ?_ ?_); rfl; rfl; rfl)
            | (go_at_call 10; (with_reducible refine (HMY.out _ I3.bel).mono ?_); rintro e w6 ⟨rfl, hb6⟩; replace I3 := I3.step hb6; clear hb6)
            | (go_at_call 11; (with_reducible refine (HLN.out _ I3).mono ?_); rintro e w7 ⟨rfl, hw7⟩; subst hw7))
          go_roundg (n - (j + 1))
          case measure => omega
          case rel => exact ⟨j + 1, al, pA, capA, F, xs, by omega, by go_num, rfl, by omega, HV, HD, I3⟩
        | true =>
          have hvo : VOk v := ⟨hm, HVV.out.2.1, HVV.out.2.2⟩
          have HVO := Lib.hid hvo
          by_cases hmem : v ∈ al
          · obtain ⟨jx, hjx⟩ := List.getElem?_of_mem hmem
            have hjl : jx < al.length := (List.getElem?_eq_some_iff.1 hjx).1
            have hid := vidYes v k b m t x q pa ca A0 (HGG.out.below I1.bel) HVV.out.1 HO.out.hf (HeldT.held q HQT.out.1) HVV.out.2.2 hm g0 (al.map encS) F I1.dic jx (by rw [List.getElem?_map, hjx]; rfl)
            have HJX : Hid (al[jx]? = some v ∨ (v ∉ al ∧ jx = al.length)) := Lib.hid (.inl hjx)
            clear hvo hjx hmem
            go_upto_region 12 with (first
              | ((with_reducible refine wpList_load6 (.tmp 6) ea S6 ?_ ?_ ?_ ?_); rfl; rfl; rfl)
              | (go_at_call 8; (with_reducible refine hid.mono ?_); rintro e w4 ⟨rfl, hb4⟩; have HB4 := Lib.hid hb4; clear hb4))
            have I2 := I1.step HB4.out
            replace S6 := S6.below HB4.out
            have hqT4 : HeldT w4 wr.heap.size w3.heap.size (.slice pa q.length ca) q := HeldT.stays (fun i _ a => HB4.out.block i (by have := HQT.out.2.1; omega)) q HQT.out.1
            have hz4 : w3.heap.size ≤ w4.heap.size := by have := HQT.out.2.1; have := HB4.out.size; omega
            have HFF : Hid (∀ i, F i → ¬(wr.heap.size ≤ i ∧ i < w3.heap.size)) := Lib.hid fun i f => by have := HFL.out i f; omega
            clear hid HB4 I1
            have hov := overValue k b m t x q pa ca wr.heap.size w3.heap.size w4 HO.out.hf.hn hqT4 hz4
            unfold OverPost at hov
            have hI3 : ∀ W, Wrote wr.heap.size w3.heap.size w4 W → DInv w (.slice (some ⟨g, off, none⟩) n capL) (.slice pN nN capN) g0 al al (.slice pA al.length capA) F xs W := fun W h => I2.wrote h HLT.out HFF.out (fun i f => by have := HAL.out i f; omega)
            have HI3 := Lib.hid hI3
            clear hI3 I2 hqT4 hz4
            go_upto_region 13 with (first
              | ((with_reducible refine wpList_load6 (.tmp 6) ea S6 ?_ ?_ ?_ ?_); rfl; rfl; rfl)
              | (go_at_call 9; (with_reducible refine hov.mono ?_); rintro e w5 ⟨rfl, hw5⟩; have I3 := HI3.out _ hw5; clear hw5))
            clear hov S6 HI3
            have hp := I3.cell
            have d := HO.out.below I3.bel
            have d0 := d.c0
            have d1 := d.c1
            have d2 := d.c2
            have d3 := d.c3
            have d4 := d.c4
            have d5 := d.c5
            clear d
            have hmy : ∀ W, Below w.heap.size w W → Calls Tryz.prog 10 #[.agg #[.int .i64 k, .bool b, .int .i64 m, .string t, .string x, .slice p q.length cp]] W fun e w' => e = .returned (.bool true) ∧ Below W.heap.size W w' := fun W h => by
              have := refMay k b m t x q p cp W HO.out.hf (HO.out.below h).hl
              rw [← HVV.out.1, HVO.out.1] at this
              exact this
            have HMY := Lib.hid hmy
            clear hmy
            go_wp2_with (first
              | ((with_reducible refine wpList_loadMid6 (.tmp 52) g (off + j * 6) k b m t x (.slice p q.length cp) d0 d1 d2 d3 d4 d5 ?_ ?_ ?_ ?_); rfl; rfl; rfl)
              | (go_at_call 10; (with_reducible refine (HMY.out _ I3.bel).mono ?_); rintro e w6 ⟨rfl, hb6⟩; replace I3 := I3.step hb6; clear hb6 d0 d1 d2 d3 d4 d5))
            clear hp
            go_loopg [9, 10] al.length (fun gg s9 s10 wr2 => ∃ i : Nat, i + gg = al.length ∧ s10 = .int .i64 i ∧ s9 = .int .i64 (if jx < i then (jx : Int) else -1) ∧ DInv w (.slice (some ⟨g, off, none⟩) n capL) (.slice pN nN capN) g0 al al (.slice pA al.length capA) F xs wr2)
            case atStart => exact ⟨0, by omega, rfl, by rw [if_neg (by omega)], I3⟩
            case round =>
              clear I3
              obtain ⟨i, hig, rfl, rfl, I3⟩ := hrel
              by_cases hi2 : (i : Int) < al.length
              · have hia : i < al.length := by omega
                obtain ⟨⟨k2, b2, m2, t2, x2, q2⟩, hu⟩ : ∃ u, al[i]? = some u := ⟨_, List.getElem?_eq_getElem hia⟩
                obtain ⟨gA, capA2, p2, c2, eA, hR, hf2, hh2⟩ := I3.elem i hu
                injection eA with eA1 eA2 eA3
                subst eA1
                clear eA2 eA3
                obtain ⟨r, hr⟩ : ∃ r, r = decide (i = jx) := ⟨_, rfl⟩
                have hsm : ∀ W, DInv w (.slice (some ⟨g, off, none⟩) n capL) (.slice pN nN capN) g0 al al (.slice (some ⟨gA, 0, none⟩) al.length capA) F xs W → Calls Tryz.prog 12 #[.agg #[.int .i64 k2, .bool b2, .int .i64 m2, .string t2, .string x2, .slice p2 q2.length c2], .agg #[.int .i64 k, .bool b, .int .i64 m, .string t, .string x, .slice p q.length cp]] W fun e w' => e = .returned (.bool r) ∧ Below W.heap.size W w' := fun W h => by
                  have := sameZAll (.mk k2 b2 m2 t2 x2 q2) W k2 b2 m2 t2 x2 q2 p2 c2 (.mk k b m t x q) k b m t x q p cp rfl rfl hf2.hn (Held.below q2 hh2 h.bel) (HO.out.below h.bel).hl
                  rw [← HVV.out.1, same_idx HD.out HJX.out i _ hu, ← hr] at this
                  exact this
                have HSM := Lib.hid hsm
                have HR := Lib.hid hR
                have HRo : Hid (∀ W, DInv w (.slice (some ⟨g, off, none⟩) n capL) (.slice pN nN capN) g0 al al (.slice (some ⟨gA, 0, none⟩) al.length capA) F xs W → W.rangeAt g (off + j * 6) [.int .i64 k, .bool b, .int .i64 m, .string t, .string x, .slice p q.length cp]) := Lib.hid fun W h => (HO.out.below h.bel).range
                clear hsm hR hu hh2
                go_upto_region 20 with fail
                refine wp_region_held_drew (S := fun W => DInv w (.slice (some ⟨g, off, none⟩) n capL) (.slice pN nN capN) g0 al al (.slice (some ⟨gA, 0, none⟩) al.length capA) F xs W) (by kernel_rfl) (I3.step (Below.refl _ _).drew) (fun hHeld => ?_)
                clear I3
                refine wpAnyH_take (i := 0) (v := (.slice (some ⟨gA, 0, none⟩) al.length capA)) rfl (by kernel_rfl) (by kernel_rfl) (by kernel_rfl) (fun _ _ _ h => h) (Or.inl ⟨by rfl, fun W _ => by go_simp⟩) hHeld ?_
                try simp only [Act.put, List.getElem_toArray, List.getElem_cons_succ, List.getElem_cons_zero, List.setIfInBounds_toArray, List.set_cons_zero, List.set_cons_succ]
                refine wpAnyH_take (i := 1) (v := (.int .i64 i)) rfl (by kernel_rfl) (by kernel_rfl) (by kernel_rfl) (fun _ _ _ h => h) (Or.inl ⟨by rfl, fun W _ => by go_simp⟩) hHeld ?_
                try simp only [Act.put, List.getElem_toArray, List.getElem_cons_succ, List.getElem_cons_zero, List.setIfInBounds_toArray, List.set_cons_zero, List.set_cons_succ]
                refine wpAnyH_take (i := 2) (v := (.pointer (some ⟨gA, i * 6, none⟩))) rfl (by kernel_rfl) (by kernel_rfl) (by kernel_rfl) (fun _ _ _ h => h) (Or.inl ⟨by rfl, fun W _ => by go_simp <;> (intro h; exfalso; omega)⟩) hHeld ?_
                try simp only [Act.put, List.getElem_toArray, List.getElem_cons_succ, List.getElem_cons_zero, List.setIfInBounds_toArray, List.set_cons_zero, List.set_cons_succ]
                refine wpAnyH_take (i := 3) rfl (by kernel_rfl) (by kernel_rfl) (by kernel_rfl) (fun _ _ _ h => h) (yieldsIf_load_mid (by rfl) 31 (.tmp 77) rfl gA (i * 6) rfl _ _ (fun W h => HR.out W h) Tryz.underlying31 rfl info28) hHeld ?_
                try simp only [Act.put, List.getElem_toArray, List.getElem_cons_succ, List.getElem_cons_zero, List.setIfInBounds_toArray, List.set_cons_zero, List.set_cons_succ]
                refine wpAnyH_take (i := 4) (v := (.pointer (some ⟨w.heap.size, 0, none⟩))) rfl (by kernel_rfl) (by kernel_rfl) (by kernel_rfl) (fun _ _ _ h => h) (Or.inl ⟨by rfl, fun W _ => by go_simp⟩) hHeld ?_
                try simp only [Act.put, List.getElem_toArray, List.getElem_cons_succ, List.getElem_cons_zero, List.setIfInBounds_toArray, List.set_cons_zero, List.set_cons_succ]
                refine wpAnyH_take (i := 5) (v := (.slice (some ⟨g, off, none⟩) n capL)) rfl (by kernel_rfl) (by kernel_rfl) (by kernel_rfl) (fun _ _ _ h => h) (Or.inl ⟨by rfl, fun W h => by have c := h.cell; go_simp⟩) hHeld ?_
                try simp only [Act.put, List.getElem_toArray, List.getElem_cons_succ, List.getElem_cons_zero, List.setIfInBounds_toArray, List.set_cons_zero, List.set_cons_succ]
                refine wpAnyH_take (i := 6) (v := (.int .i64 j)) rfl (by kernel_rfl) (by kernel_rfl) (by kernel_rfl) (fun _ _ _ h => h) (Or.inl ⟨by rfl, fun W _ => by go_simp⟩) hHeld ?_
                try simp only [Act.put, List.getElem_toArray, List.getElem_cons_succ, List.getElem_cons_zero, List.setIfInBounds_toArray, List.set_cons_zero, List.set_cons_succ]
                refine wpAnyH_take (i := 7) (v := (.pointer (some ⟨g, off + j * 6, none⟩))) rfl (by kernel_rfl) (by kernel_rfl) (by kernel_rfl) (fun _ _ _ h => h) (Or.inl ⟨by rfl, fun W _ => by go_simp <;> (intro h; exfalso; omega)⟩) hHeld ?_
                try simp only [Act.put, List.getElem_toArray, List.getElem_cons_succ, List.getElem_cons_zero, List.setIfInBounds_toArray, List.set_cons_zero, List.set_cons_succ]
                refine wpAnyH_take (i := 8) rfl (by kernel_rfl) (by kernel_rfl) (by kernel_rfl) (fun _ _ _ h => h) (yieldsIf_load_mid (by rfl) 31 (.tmp 82) rfl g (off + j * 6) rfl _ _ (fun W h => HRo.out W h) Tryz.underlying31 rfl info28) hHeld ?_
                try simp only [Act.put, List.getElem_toArray, List.getElem_cons_succ, List.getElem_cons_zero, List.setIfInBounds_toArray, List.set_cons_zero, List.set_cons_succ]
                refine wpAnyH_ready (rs := [9]) (by kernel_rfl) (by simp) ?_
                refine AllReadyH.cons rfl (fun K hK => ?_) AllReadyH.nil
                rw [if_pos (by rfl)]
                go_simp
                refine (HSM.out _ hHeld).mono ?_
                rintro e w3 ⟨rfl, hb3⟩
                refine hK.out _ _ (hHeld.step hb3) (fun hHeld2 => ?_)
                clear hK K hb3 hHeld
                have hHeld := hHeld2
                clear hHeld2
                try simp only [Act.put, List.getElem_toArray, List.getElem_cons_succ, List.getElem_cons_zero, List.setIfInBounds_toArray, List.set_cons_zero, List.set_cons_succ]
                refine wpAnyH_done (by kernel_rfl) ?_ _
                have I4 := hHeld
                clear hHeld HSM HR HRo
                cases r with
                | false =>
                  have hne : ¬ i = jx := of_decide_eq_false hr.symm
                  have hs : (if jx < i then (jx : Int) else -1) = if jx < i + 1 then (jx : Int) else -1 := by
                    by_cases h : jx < i
                    · rw [if_pos h, if_pos (by omega)]
                    · rw [if_neg h, if_neg (by omega)]
                  obtain ⟨kk, hkk⟩ : ∃ kk, kk = if jx < i + 1 then (jx : Int) else -1 := ⟨_, rfl⟩
                  rw [hs, ← hkk]
                  have HS := Lib.hid hkk
                  clear hr hne hs hkk
                  go_wp2_with fail
                  go_roundg (gk - 1)
                  case measure => omega
                  case rel => exact ⟨i + 1, by omega, by go_num, by rw [HS.out], I4⟩
                | true =>
                  have hne : i = jx := of_decide_eq_true hr.symm
                  clear hr
                  go_wp2_with fail
                  go_roundg (gk - 1)
                  case measure => omega
                  case rel => exact ⟨i + 1, by omega, by go_num, by rw [if_pos (by omega), hne], I4⟩
              · obtain rfl : i = al.length := by omega
                rw [if_pos hjl]
                have hln : ∀ W, DInv w (.slice (some ⟨g, off, none⟩) n capL) (.slice pN nN capN) g0 al al (.slice pA al.length capA) F xs W → Calls Tryz.prog 11 #[.pointer (some ⟨g0, 0, none⟩)] W fun e w' => e = .returned (.int .i64 al.length) ∧ W = w' := fun W h => by
                  have := valuesLen W g0 (al.map encS) F h.dic
                  rwa [List.length_map] at this
                have HLN := Lib.hid hln
                have q9 : ((al.length : Int) != al.length) = false := by simp
                have q8 : ((jx : Int) != jx) = false := by simp
                clear hln
                go_wp2_with (go_at_call 11; (with_reducible refine (HLN.out _ I3).mono ?_); rintro e w7 ⟨rfl, hw7⟩; subst hw7)
                go_roundg (n - (j + 1))
                case measure => omega
                case rel => exact ⟨j + 1, al, pA, capA, F, xs, by omega, by go_num, rfl, by omega, HV, HD, I3⟩

          · obtain ⟨jx, hjl⟩ : ∃ jx, jx = al.length := ⟨_, rfl⟩
            have hid : Calls Tryz.prog 8 #[.pointer (some ⟨g0, 0, none⟩), .agg #[.int .i64 k, .bool b, .int .i64 m, .string t, .string x, .slice pa q.length ca]] A0 fun e w' => ∃ F', e = .returned (.tuple #[.int .i64 jx, .int .i64 0]) ∧ DInv w (.slice (some ⟨g, off, none⟩) n capL) (.slice pN nN capN) g0 (al ++ [v]) al (.slice pA al.length capA) F' xs w' ∧ Turn F F' A0 w' :=
              (vidNo v k b m t x q pa ca A0 (HGG.out.below I1.bel) HVV.out.1 HO.out.hf (HeldT.held q HQT.out.1) HVV.out.2.2 hm g0 (al.map encS) F I1.dic (fun h => hmem ((enc_mem HV.out hvo).1 h)) (by rw [List.length_map]; omega)).mono (by
                rintro e w' ⟨F', he, hd, ht⟩
                rw [List.length_map, ← hjl] at he
                exact ⟨F', he, I1.turn ht (by rw [List.map_append]; exact hd), ht⟩)
            have HJX : Hid (al[jx]? = some v ∨ (v ∉ al ∧ jx = al.length)) := Lib.hid (.inr ⟨hmem, hjl⟩)
            have HNM := Lib.hid hmem
            have HJL := Lib.hid hjl
            clear hvo hmem hjl
            go_upto_region 12 with (first
              | ((with_reducible refine wpList_load6 (.tmp 6) ea S6 ?_ ?_ ?_ ?_); rfl; rfl; rfl)
              | (go_at_call 8; (with_reducible refine hid.mono ?_); rintro e w4 ⟨F', rfl, I2, ht⟩; have HT4 := Lib.hid ht; clear ht))
            have hea2 : wr.heap.size ≤ ea := HEA.out
            replace S6 : Six w4 ea k b m t x pa q.length ca := (HT4.out.ch.block ea S6.lt (fun f => by have := HFL.out _ f; omega)).trans S6
            have hqT4 : HeldT w4 wr.heap.size w3.heap.size (.slice pa q.length ca) q := HeldT.stays (fun i a c => HT4.out.ch.block i (by have := HQT.out.2.1; omega) (fun f => by have := HFL.out _ f; omega)) q HQT.out.1
            have hz4 : w3.heap.size ≤ w4.heap.size := by have := HQT.out.2.1; have := HT4.out.ch.size; omega
            have HFF : Hid (∀ i, F' i → ¬(wr.heap.size ≤ i ∧ i < w3.heap.size)) := Lib.hid fun i f => by
              rcases HT4.out.foot i f with h | h
              · have := HFL.out i h; omega
              · have := HQT.out.2.1; omega
            clear hid HT4 I1
            have hov := overValue k b m t x q pa ca wr.heap.size w3.heap.size w4 HO.out.hf.hn hqT4 hz4
            unfold OverPost at hov
            have hI3 : ∀ W, Wrote wr.heap.size w3.heap.size w4 W → DInv w (.slice (some ⟨g, off, none⟩) n capL) (.slice pN nN capN) g0 (al ++ [v]) al (.slice pA al.length capA) F' xs W := fun W h => I2.wrote h HLT.out HFF.out (fun i f => by have := HAL.out i f; omega)
            have HI3 := Lib.hid hI3
            clear hI3 I2 hqT4 hz4
            go_upto_region 13 with (first
              | ((with_reducible refine wpList_load6 (.tmp 6) ea S6 ?_ ?_ ?_ ?_); rfl; rfl; rfl)
              | (go_at_call 9; (with_reducible refine hov.mono ?_); rintro e w5 ⟨rfl, hw5⟩; have I3 := HI3.out _ hw5; clear hw5))
            clear hov S6 HI3
            have hp := I3.cell
            have d := HO.out.below I3.bel
            have d0 := d.c0
            have d1 := d.c1
            have d2 := d.c2
            have d3 := d.c3
            have d4 := d.c4
            have d5 := d.c5
            clear d
            have hmy : ∀ W, Below w.heap.size w W → Calls Tryz.prog 10 #[.agg #[.int .i64 k, .bool b, .int .i64 m, .string t, .string x, .slice p q.length cp]] W fun e w' => e = .returned (.bool true) ∧ Below W.heap.size W w' := fun W h => by
              have := refMay k b m t x q p cp W HO.out.hf (HO.out.below h).hl
              rw [← HVV.out.1, HVO.out.1] at this
              exact this
            have HMY := Lib.hid hmy
            clear hmy
            go_wp2_with (first
              | ((with_reducible refine wpList_loadMid6 (.tmp 52) g (off + j * 6) k b m t x (.slice p q.length cp) d0 d1 d2 d3 d4 d5 ?_ ?_ ?_ ?_); rfl; rfl; rfl)
              | (go_at_call 10; (with_reducible refine (HMY.out _ I3.bel).mono ?_); rintro e w6 ⟨rfl, hb6⟩; replace I3 := I3.step hb6; clear hb6 d0 d1 d2 d3 d4 d5))
            clear hp
            go_loopg [9, 10] al.length (fun gg s9 s10 wr2 => ∃ i : Nat, i + gg = al.length ∧ s10 = .int .i64 i ∧ s9 = .int .i64 (if jx < i then (jx : Int) else -1) ∧ DInv w (.slice (some ⟨g, off, none⟩) n capL) (.slice pN nN capN) g0 (al ++ [v]) al (.slice pA al.length capA) F' xs wr2)
            case atStart => exact ⟨0, by omega, rfl, by rw [if_neg (by omega)], I3⟩
            case round =>
              clear I3
              obtain ⟨i, hig, rfl, rfl, I3⟩ := hrel
              by_cases hi2 : (i : Int) < al.length
              · have hia : i < al.length := by omega
                obtain ⟨⟨k2, b2, m2, t2, x2, q2⟩, hu⟩ : ∃ u, al[i]? = some u := ⟨_, List.getElem?_eq_getElem hia⟩
                obtain ⟨gA, capA2, p2, c2, eA, hR, hf2, hh2⟩ := I3.elem i hu
                injection eA with eA1 eA2 eA3
                subst eA1
                clear eA2 eA3
                obtain ⟨r, hr⟩ : ∃ r, r = decide (i = jx) := ⟨_, rfl⟩
                have hsm : ∀ W, DInv w (.slice (some ⟨g, off, none⟩) n capL) (.slice pN nN capN) g0 (al ++ [v]) al (.slice (some ⟨gA, 0, none⟩) al.length capA) F' xs W → Calls Tryz.prog 12 #[.agg #[.int .i64 k2, .bool b2, .int .i64 m2, .string t2, .string x2, .slice p2 q2.length c2], .agg #[.int .i64 k, .bool b, .int .i64 m, .string t, .string x, .slice p q.length cp]] W fun e w' => e = .returned (.bool r) ∧ Below W.heap.size W w' := fun W h => by
                  have := sameZAll (.mk k2 b2 m2 t2 x2 q2) W k2 b2 m2 t2 x2 q2 p2 c2 (.mk k b m t x q) k b m t x q p cp rfl rfl hf2.hn (Held.below q2 hh2 h.bel) (HO.out.below h.bel).hl
                  rw [← HVV.out.1, same_idx HD.out HJX.out i _ hu, ← hr] at this
                  exact this
                have HSM := Lib.hid hsm
                have HR := Lib.hid hR
                have HRo : Hid (∀ W, DInv w (.slice (some ⟨g, off, none⟩) n capL) (.slice pN nN capN) g0 (al ++ [v]) al (.slice (some ⟨gA, 0, none⟩) al.length capA) F' xs W → W.rangeAt g (off + j * 6) [.int .i64 k, .bool b, .int .i64 m, .string t, .string x, .slice p q.length cp]) := Lib.hid fun W h => (HO.out.below h.bel).range
                clear hsm hR hu hh2
                go_upto_region 20 with fail
                refine wp_region_held_drew (S := fun W => DInv w (.slice (some ⟨g, off, none⟩) n capL) (.slice pN nN capN) g0 (al ++ [v]) al (.slice (some ⟨gA, 0, none⟩) al.length capA) F' xs W) (by kernel_rfl) (I3.step (Below.refl _ _).drew) (fun hHeld => ?_)
                clear I3
                refine wpAnyH_take (i := 0) (v := (.slice (some ⟨gA, 0, none⟩) al.length capA)) rfl (by kernel_rfl) (by kernel_rfl) (by kernel_rfl) (fun _ _ _ h => h) (Or.inl ⟨by rfl, fun W _ => by go_simp⟩) hHeld ?_
                try simp only [Act.put, List.getElem_toArray, List.getElem_cons_succ, List.getElem_cons_zero, List.setIfInBounds_toArray, List.set_cons_zero, List.set_cons_succ]
                refine wpAnyH_take (i := 1) (v := (.int .i64 i)) rfl (by kernel_rfl) (by kernel_rfl) (by kernel_rfl) (fun _ _ _ h => h) (Or.inl ⟨by rfl, fun W _ => by go_simp⟩) hHeld ?_
                try simp only [Act.put, List.getElem_toArray, List.getElem_cons_succ, List.getElem_cons_zero, List.setIfInBounds_toArray, List.set_cons_zero, List.set_cons_succ]
                refine wpAnyH_take (i := 2) (v := (.pointer (some ⟨gA, i * 6, none⟩))) rfl (by kernel_rfl) (by kernel_rfl) (by kernel_rfl) (fun _ _ _ h => h) (Or.inl ⟨by rfl, fun W _ => by go_simp <;> (intro h; exfalso; omega)⟩) hHeld ?_
                try simp only [Act.put, List.getElem_toArray, List.getElem_cons_succ, List.getElem_cons_zero, List.setIfInBounds_toArray, List.set_cons_zero, List.set_cons_succ]
                refine wpAnyH_take (i := 3) rfl (by kernel_rfl) (by kernel_rfl) (by kernel_rfl) (fun _ _ _ h => h) (yieldsIf_load_mid (by rfl) 31 (.tmp 77) rfl gA (i * 6) rfl _ _ (fun W h => HR.out W h) Tryz.underlying31 rfl info28) hHeld ?_
                try simp only [Act.put, List.getElem_toArray, List.getElem_cons_succ, List.getElem_cons_zero, List.setIfInBounds_toArray, List.set_cons_zero, List.set_cons_succ]
                refine wpAnyH_take (i := 4) (v := (.pointer (some ⟨w.heap.size, 0, none⟩))) rfl (by kernel_rfl) (by kernel_rfl) (by kernel_rfl) (fun _ _ _ h => h) (Or.inl ⟨by rfl, fun W _ => by go_simp⟩) hHeld ?_
                try simp only [Act.put, List.getElem_toArray, List.getElem_cons_succ, List.getElem_cons_zero, List.setIfInBounds_toArray, List.set_cons_zero, List.set_cons_succ]
                refine wpAnyH_take (i := 5) (v := (.slice (some ⟨g, off, none⟩) n capL)) rfl (by kernel_rfl) (by kernel_rfl) (by kernel_rfl) (fun _ _ _ h => h) (Or.inl ⟨by rfl, fun W h => by have c := h.cell; go_simp⟩) hHeld ?_
                try simp only [Act.put, List.getElem_toArray, List.getElem_cons_succ, List.getElem_cons_zero, List.setIfInBounds_toArray, List.set_cons_zero, List.set_cons_succ]
                refine wpAnyH_take (i := 6) (v := (.int .i64 j)) rfl (by kernel_rfl) (by kernel_rfl) (by kernel_rfl) (fun _ _ _ h => h) (Or.inl ⟨by rfl, fun W _ => by go_simp⟩) hHeld ?_
                try simp only [Act.put, List.getElem_toArray, List.getElem_cons_succ, List.getElem_cons_zero, List.setIfInBounds_toArray, List.set_cons_zero, List.set_cons_succ]
                refine wpAnyH_take (i := 7) (v := (.pointer (some ⟨g, off + j * 6, none⟩))) rfl (by kernel_rfl) (by kernel_rfl) (by kernel_rfl) (fun _ _ _ h => h) (Or.inl ⟨by rfl, fun W _ => by go_simp <;> (intro h; exfalso; omega)⟩) hHeld ?_
                try simp only [Act.put, List.getElem_toArray, List.getElem_cons_succ, List.getElem_cons_zero, List.setIfInBounds_toArray, List.set_cons_zero, List.set_cons_succ]
                refine wpAnyH_take (i := 8) rfl (by kernel_rfl) (by kernel_rfl) (by kernel_rfl) (fun _ _ _ h => h) (yieldsIf_load_mid (by rfl) 31 (.tmp 82) rfl g (off + j * 6) rfl _ _ (fun W h => HRo.out W h) Tryz.underlying31 rfl info28) hHeld ?_
                try simp only [Act.put, List.getElem_toArray, List.getElem_cons_succ, List.getElem_cons_zero, List.setIfInBounds_toArray, List.set_cons_zero, List.set_cons_succ]
                refine wpAnyH_ready (rs := [9]) (by kernel_rfl) (by simp) ?_
                refine AllReadyH.cons rfl (fun K hK => ?_) AllReadyH.nil
                rw [if_pos (by rfl)]
                go_simp
                refine (HSM.out _ hHeld).mono ?_
                rintro e w3 ⟨rfl, hb3⟩
                refine hK.out _ _ (hHeld.step hb3) (fun hHeld2 => ?_)
                clear hK K hb3 hHeld
                have hHeld := hHeld2
                clear hHeld2
                try simp only [Act.put, List.getElem_toArray, List.getElem_cons_succ, List.getElem_cons_zero, List.setIfInBounds_toArray, List.set_cons_zero, List.set_cons_succ]
                refine wpAnyH_done (by kernel_rfl) ?_ _
                have I4 := hHeld
                clear hHeld HSM HR HRo
                cases r with
                | false =>
                  have hne : ¬ i = jx := of_decide_eq_false hr.symm
                  have hs : (if jx < i then (jx : Int) else -1) = if jx < i + 1 then (jx : Int) else -1 := by
                    by_cases h : jx < i
                    · rw [if_pos h, if_pos (by omega)]
                    · rw [if_neg h, if_neg (by omega)]
                  obtain ⟨kk, hkk⟩ : ∃ kk, kk = if jx < i + 1 then (jx : Int) else -1 := ⟨_, rfl⟩
                  rw [hs, ← hkk]
                  have HS := Lib.hid hkk
                  clear hr hne hs hkk
                  go_wp2_with fail
                  go_roundg (gk - 1)
                  case measure => omega
                  case rel => exact ⟨i + 1, by omega, by go_num, by rw [HS.out], I4⟩
                | true =>
                  have hne : i = jx := of_decide_eq_true hr.symm
                  clear hr
                  go_wp2_with fail
                  go_roundg (gk - 1)
                  case measure => omega
                  case rel => exact ⟨i + 1, by omega, by go_num, by rw [if_pos (by omega), hne], I4⟩
              · obtain rfl : i = al.length := by omega
                rw [if_neg (by have := HJL.out; omega)]
                have hp := I3.cell
                have d := HO.out.below I3.bel
                have d0 := d.c0
                have d1 := d.c1
                have d2 := d.c2
                have d3 := d.c3
                have d4 := d.c4
                have d5 := d.c5
                clear d
                have hown := I3.row
                have HI3 := Lib.hid I3
                have q8 : ((jx : Int) != al.length) = false := by rw [HJL.out]; simp
                have hal : al.length ≤ 1048576 := by omega
                clear I3
                go_wp2_with (first
                  | ((with_reducible refine wpList_loadMid6 (.tmp 94) g (off + j * 6) k b m t x (.slice p q.length cp) d0 d1 d2 d3 d4 d5 ?_ ?_ ?_ ?_); rfl; rfl; rfl)
                  | (at_builtin; refine wpList_append_own_at _ rfl _ _ 22 rfl (w.heap.size + 1) 31 i0 (.agg #[.int .i64 0, .bool false, .int .i64 0, .string ⟨#[]⟩, .string ⟨#[]⟩, .slice none 0 0]) 6 80 Tryz.underlying22 hi hz0 hz1 hz2 rfl (by decide) _ _ _ rfl (hown.alloc _) ⟨wr.heap.size, 0, none⟩ 1 1 [.int .i64 k, .bool b, .int .i64 m, .string t, .string x, .slice p q.length cp] rfl rfl (cell_six_new _ _ _ _ _ _ _ _) ?_ ?_ ?_ ?_ ?_))
                all_goals (try (first | (exact ⟨rfl, rfl, rfl, rfl, rfl, rfl⟩) | (unfold maxLen; omega) | omega | (simp; omega) | (have := HI3.out.lt; simp; omega) | (intro u hu; simp only [List.mem_cons, List.mem_nil_iff, or_false] at hu; rcases hu with rfl | rfl | rfl | rfl | rfl | rfl <;> rfl)))
                intro v' w1 hown' hgrow _ hloc
                have I5 := HI3.out.more HO.out.hf HO.out.hl hown' hgrow hloc
                obtain ⟨pA2, capA2, rfl⟩ := own_slice hown'
                rw [HVV.out.1] at I5
                obtain ⟨la, hla⟩ : ∃ la, la = al.length + 1 := ⟨_, rfl⟩
                rw [← hla] at I5 ⊢
                have hln := valuesLen w1 g0 _ F' I5.dic
                have hlen : ((al ++ [Val.mk k b m t x q]).map encS).length = la := by rw [hla]; simp
                have hlen2 : (al ++ [Val.mk k b m t x q]).length = la := by rw [hla]; simp
                rw [hlen] at hln
                have q7 : ((la : Int) != la) = false := by simp
                have HLA := Lib.hid (And.intro hla hlen2)
                have HI5 := Lib.hid I5
                clear hla hlen hlen2 I5 hown' hgrow hloc
                have HV2 : Hid (∀ u ∈ al ++ [Val.mk k b m t x q], VOk u) := Lib.hid (vok_snoc HV.out (HVV.out.1 ▸ HVO.out))
                go_wp2_with (go_at_call 11; (with_reducible refine hln.mono ?_); rintro e w7 ⟨rfl, hw7⟩; subst hw7)
                go_roundg (n - (j + 1))
                case measure => omega
                case rel => exact ⟨j + 1, al ++ [Val.mk k b m t x q], pA2, capA2, F', _, by omega, by go_num, by rw [HLA.out.2], by rw [HLA.out.2, HLA.out.1]; omega, HV2, Lib.hid (by rw [← HVV.out.1]; exact nodup_snoc HD.out HNM.out), by rw [HLA.out.2]; exact HI5.out⟩

      · skip
        go_wp2_with fail
        go_loopg [11] nN (fun gg s11 wr => ∃ i : Nat, i + gg = nN ∧ s11 = .int .i64 i ∧ DInv w (.slice pL n capL) (.slice pN nN capN) g0 al al (.slice pA al.length capA) F xs wr)
        case atStart => exact ⟨0, by omega, rfl, I⟩
        case round =>
          clear I hp
          obtain ⟨i, hig, rfl, I⟩ := hrel
          have hp := I.cell1
          by_cases hlt3 : (i : Int) < nN
          · by_cases h30 : (i : Int) < 30
            · obtain ⟨bN, offN, rfl, hZ⟩ := HNN.out (by omega)
              obtain ⟨z, hz⟩ : ∃ z, z = Z i := ⟨_, rfl⟩
              have HZ : Hid (∀ W, Below w.heap.size w W → W.cell? ⟨bN, offN + i, none⟩ = some (.int .i64 z)) := Lib.hid fun W h => by
                have h1 := hZ i (by omega)
                rw [← hz] at h1
                exact (h.cell (p := ⟨bN, offN + i, none⟩) (World.block_lt_of_cell? w _ h1)).trans h1
              clear hZ hz
              go_wp2_with fail
              go_loopg [12] 2 (fun gg s12 wr => ∃ o : Nat, o + gg = 2 ∧ s12 = .int .i64 o ∧ DInv w (.slice pL n capL) (.slice (some ⟨bN, offN, none⟩) nN capN) g0 al al (.slice pA al.length capA) F xs wr)
              case atStart => exact ⟨0, by omega, rfl, I⟩
              case round =>
                clear I hp
                obtain ⟨o, hog, rfl, I⟩ := hrel
                by_cases ho2 : (o : Int) < 2
                · have HLT := Lib.hid I.lt
                  have HFL : Hid (∀ i, F i → i < wr.heap.size) := Lib.hid fun i f => I.dic.lt f
                  by_cases hin : 0 ≤ z ∧ z < al.length
                  · obtain ⟨jz, rfl⟩ := Int.eq_ofNat_of_zero_le hin.1
                    have hjz : jz < al.length := by omega
                    obtain ⟨⟨k, b, m, t, x, q⟩, hu⟩ : ∃ u, al[jz]? = some u := ⟨_, List.getElem?_eq_getElem hjz⟩
                    have hok := HV.out _ (List.mem_of_getElem? hu)
                    have hval := valueYes (.mk k b m t x q) k b m t x q rfl hok.2.1 hok.1 wr (HGG.out.below I.bel) g0 (al.map encS) F I.dic jz (by rw [List.getElem?_map, hu]; rfl) (by rw [List.length_map]; unfold maxLen; omega) hok.2.2
                    unfold VPost at hval
                    obtain ⟨gA, capA2, p2, c2, eA, hR, hf2, hh2⟩ := I.elem jz hu
                    injection eA with eA1 eA2 eA3
                    subst eA1
                    clear eA2 eA3
                    have HR := Lib.hid hR
                    have HAL : Hid (∀ i, (Value.slice (some ⟨gA, 0, none⟩) al.length capA).ownBlock = some i → i < wr.heap.size) := Lib.hid fun i h => (I.row.lt i h).2
                    have HF2 := Lib.hid (And.intro hf2 hh2)
                    have l1 := I.cell1
                    have cz := HZ.out _ I.bel
                    have HI := Lib.hid I
                    have hge : (0 : Int) ≤ (jz : Int) := hin.1
                    have hlt9 : (jz : Int) < al.length := hin.2
                    clear I hok hu hR hf2 hh2 hin
                    go_upto_region 34 with (go_at_call 13; (with_reducible refine hval.mono ?_); rintro e w5 ⟨p5, c5, rfl, hh5, hb5⟩; have HQ5 := Lib.hid (And.intro hh5 hb5); clear hh5 hb5)
                    clear l1 cz hval
                    obtain ⟨C0, hC0⟩ : ∃ C0, C0 = w5.alloc (.cells #[.int .i64 k, .bool b, .int .i64 m, .string t, .string x, .slice p5 q.length c5] 31) := ⟨_, rfl⟩
                    obtain ⟨ec, hec⟩ : ∃ ec, ec = w5.heap.size := ⟨_, rfl⟩
                    rw [← hC0, ← hec]
                    have zC : w5.heap.size ≤ C0.heap.size := by rw [hC0]; simp
                    have bC : Below wr.heap.size wr C0 := by rw [hC0]; exact HQ5.out.2.alloc HQ5.out.2.size _
                    have S8 : Six C0 ec k b m t x p5 q.length c5 := by rw [hC0, hec]; exact six_new _ rfl
                    have hq5 : HeldT C0 wr.heap.size w5.heap.size (.slice p5 q.length c5) q := HeldT.stays (fun i _ a => by rw [hC0]; exact Below.heap_alloc _ _ _ a) q HQ5.out.1
                    have IC := HI.out.step bC
                    have hsm : ∀ W, Below C0.heap.size C0 W → Calls Tryz.prog 12 #[.agg #[.int .i64 k, .bool b, .int .i64 m, .string t, .string x, .slice p5 q.length c5], .agg #[.int .i64 k, .bool b, .int .i64 m, .string t, .string x, .slice p2 q.length c2]] W fun e w' => e = .returned (.bool true) ∧ Below W.heap.size W w' := fun W h => by
                      have := sameZAll (.mk k b m t x q) W k b m t x q p5 c5 (.mk k b m t x q) k b m t x q p2 c2 rfl rfl HF2.out.1.hn (Held.below q (HeldT.held q hq5) h) (Held.below q HF2.out.2 (IC.step h).bel)
                      rw [sameP_refl] at this
                      exact this
                    have HSM := Lib.hid hsm
                    have HS8 := Lib.hid S8
                    have HQ := Lib.hid (And.intro hq5 zC)
                    have HIC := Lib.hid IC
                    have l1 := IC.cell1
                    have cz := HZ.out _ IC.bel
                    clear hC0 hec HQ5 bC S8 hq5 IC hsm HI zC
                    go_upto_region 35 with fail
                    clear l1 cz
                    refine wp_region_held_drew (S := fun W => Below C0.heap.size C0 W) (by kernel_rfl) (Below.refl _ _).drew (fun hHeld => ?_)
                    refine wpAnyH_take (i := 0) (v := (.bool true)) rfl (by kernel_rfl) (by kernel_rfl) (by kernel_rfl) (fun _ _ _ h => h) (Or.inl ⟨by rfl, fun W _ => by go_simp⟩) hHeld ?_
                    try simp only [Act.put, List.getElem_toArray, List.getElem_cons_succ, List.getElem_cons_zero, List.setIfInBounds_toArray, List.set_cons_zero, List.set_cons_succ]
                    refine wpAnyH_take (i := 1) (v := (.bool true)) rfl (by kernel_rfl) (by kernel_rfl) (by kernel_rfl) (fun _ _ _ h => h) (Or.inl ⟨by rfl, fun W _ => by go_simp⟩) hHeld ?_
                    try simp only [Act.put, List.getElem_toArray, List.getElem_cons_succ, List.getElem_cons_zero, List.setIfInBounds_toArray, List.set_cons_zero, List.set_cons_succ]
                    refine wpAnyH_take (i := 2) (v := (.bool false)) rfl (by kernel_rfl) (by kernel_rfl) (by kernel_rfl) (fun _ _ _ h => h) (Or.inl ⟨by rfl, fun W _ => by go_simp⟩) hHeld ?_
                    try simp only [Act.put, List.getElem_toArray, List.getElem_cons_succ, List.getElem_cons_zero, List.setIfInBounds_toArray, List.set_cons_zero, List.set_cons_succ]
                    refine wpAnyH_take (i := 3) (v := (.bool false)) rfl (by kernel_rfl) (by kernel_rfl) (by kernel_rfl) (fun _ _ _ h => h) (Or.inl ⟨by rfl, fun W _ => by go_simp⟩) hHeld ?_
                    try simp only [Act.put, List.getElem_toArray, List.getElem_cons_succ, List.getElem_cons_zero, List.setIfInBounds_toArray, List.set_cons_zero, List.set_cons_succ]
                    refine wpAnyH_take (i := 4) (v := (.bool true)) rfl (by kernel_rfl) (by kernel_rfl) (by kernel_rfl) (fun _ _ _ h => h) (Or.inl ⟨by rfl, fun W _ => by go_simp⟩) hHeld ?_
                    try simp only [Act.put, List.getElem_toArray, List.getElem_cons_succ, List.getElem_cons_zero, List.setIfInBounds_toArray, List.set_cons_zero, List.set_cons_succ]
                    refine wpAnyH_take (i := 5) (v := (.bool true)) rfl (by kernel_rfl) (by kernel_rfl) (by kernel_rfl) (fun _ _ _ h => h) (Or.inl ⟨by rfl, fun W _ => by go_simp⟩) hHeld ?_
                    try simp only [Act.put, List.getElem_toArray, List.getElem_cons_succ, List.getElem_cons_zero, List.setIfInBounds_toArray, List.set_cons_zero, List.set_cons_succ]
                    refine wpAnyH_take (i := 6) rfl (by kernel_rfl) (by kernel_rfl) (by kernel_rfl) (fun _ _ _ h => h) (yields6 (by rfl) (.tmp 13) rfl ec rfl (fun _ h => HS8.out.below h)) hHeld ?_
                    try simp only [Act.put, List.getElem_toArray, List.getElem_cons_succ, List.getElem_cons_zero, List.setIfInBounds_toArray, List.set_cons_zero, List.set_cons_succ]
                    refine wpAnyH_take (i := 7) (v := (.slice (some ⟨gA, 0, none⟩) al.length capA)) rfl (by kernel_rfl) (by kernel_rfl) (by kernel_rfl) (fun _ _ _ h => h) (Or.inl ⟨by rfl, fun W _ => by go_simp⟩) hHeld ?_
                    try simp only [Act.put, List.getElem_toArray, List.getElem_cons_succ, List.getElem_cons_zero, List.setIfInBounds_toArray, List.set_cons_zero, List.set_cons_succ]
                    refine wpAnyH_take (i := 8) (v := (.pointer (some ⟨w.heap.size, 1, none⟩))) rfl (by kernel_rfl) (by kernel_rfl) (by kernel_rfl) (fun _ _ _ h => h) (Or.inl ⟨by rfl, fun W _ => by go_simp⟩) hHeld ?_
                    try simp only [Act.put, List.getElem_toArray, List.getElem_cons_succ, List.getElem_cons_zero, List.setIfInBounds_toArray, List.set_cons_zero, List.set_cons_succ]
                    refine wpAnyH_take (i := 9) (v := (.slice (some ⟨bN, offN, none⟩) nN capN)) rfl (by kernel_rfl) (by kernel_rfl) (by kernel_rfl) (fun _ _ _ h => h) (Or.inl ⟨by rfl, fun W h => by have c := (HIC.out.step h).cell1; go_simp⟩) hHeld ?_
                    try simp only [Act.put, List.getElem_toArray, List.getElem_cons_succ, List.getElem_cons_zero, List.setIfInBounds_toArray, List.set_cons_zero, List.set_cons_succ]
                    refine wpAnyH_take (i := 10) (v := (.int .i64 i)) rfl (by kernel_rfl) (by kernel_rfl) (by kernel_rfl) (fun _ _ _ h => h) (Or.inl ⟨by rfl, fun W _ => by go_simp⟩) hHeld ?_
                    try simp only [Act.put, List.getElem_toArray, List.getElem_cons_succ, List.getElem_cons_zero, List.setIfInBounds_toArray, List.set_cons_zero, List.set_cons_succ]
                    refine wpAnyH_take (i := 11) (v := (.pointer (some ⟨bN, offN + i, none⟩))) rfl (by kernel_rfl) (by kernel_rfl) (by kernel_rfl) (fun _ _ _ h => h) (Or.inl ⟨by rfl, fun W _ => by go_simp <;> (intro h; exfalso; omega)⟩) hHeld ?_
                    try simp only [Act.put, List.getElem_toArray, List.getElem_cons_succ, List.getElem_cons_zero, List.setIfInBounds_toArray, List.set_cons_zero, List.set_cons_succ]
                    refine wpAnyH_take (i := 12) (v := (.int .i64 jz)) rfl (by kernel_rfl) (by kernel_rfl) (by kernel_rfl) (fun _ _ _ h => h) (Or.inl ⟨by rfl, fun W h => by have c := HZ.out W (HIC.out.step h).bel; go_simp⟩) hHeld ?_
                    try simp only [Act.put, List.getElem_toArray, List.getElem_cons_succ, List.getElem_cons_zero, List.setIfInBounds_toArray, List.set_cons_zero, List.set_cons_succ]
                    refine wpAnyH_take (i := 13) (v := (.pointer (some ⟨gA, jz * 6, none⟩))) rfl (by kernel_rfl) (by kernel_rfl) (by kernel_rfl) (fun _ _ _ h => h) (Or.inl ⟨by rfl, fun W _ => by go_simp <;> (intro h; exfalso; omega)⟩) hHeld ?_
                    try simp only [Act.put, List.getElem_toArray, List.getElem_cons_succ, List.getElem_cons_zero, List.setIfInBounds_toArray, List.set_cons_zero, List.set_cons_succ]
                    refine wpAnyH_take (i := 14) rfl (by kernel_rfl) (by kernel_rfl) (by kernel_rfl) (fun _ _ _ h => h) (yieldsIf_load_mid (by rfl) 31 (.tmp 166) rfl gA (jz * 6) rfl _ _ (fun W h => HR.out W (HIC.out.step h)) Tryz.underlying31 rfl info28) hHeld ?_
                    try simp only [Act.put, List.getElem_toArray, List.getElem_cons_succ, List.getElem_cons_zero, List.setIfInBounds_toArray, List.set_cons_zero, List.set_cons_succ]
                    refine wpAnyH_ready (rs := [15]) (by kernel_rfl) (by simp) ?_
                    refine AllReadyH.cons rfl (fun K hK => ?_) AllReadyH.nil
                    rw [if_pos (by rfl)]
                    go_simp
                    refine (HSM.out _ hHeld).mono ?_
                    rintro e w7 ⟨rfl, hb7⟩
                    refine hK.out _ _ (below_any hHeld hb7 hHeld.size) (fun hHeld2 => ?_)
                    clear hK K hb7 hHeld
                    have hHeld := hHeld2
                    clear hHeld2
                    try simp only [Act.put, List.getElem_toArray, List.getElem_cons_succ, List.getElem_cons_zero, List.setIfInBounds_toArray, List.set_cons_zero, List.set_cons_succ]
                    refine wpAnyH_take (i := 16) (v := (.bool false)) rfl (by kernel_rfl) (by kernel_rfl) (by kernel_rfl) (fun _ _ _ h => h) (Or.inl ⟨by rfl, fun W _ => by go_simp⟩) hHeld ?_
                    try simp only [Act.put, List.getElem_toArray, List.getElem_cons_succ, List.getElem_cons_zero, List.setIfInBounds_toArray, List.set_cons_zero, List.set_cons_succ]
                    refine wpAnyH_take (i := 17) (v := (.bool false)) rfl (by kernel_rfl) (by kernel_rfl) (by kernel_rfl) (fun _ _ _ h => h) (Or.inl ⟨by rfl, fun W _ => by go_simp⟩) hHeld ?_
                    try simp only [Act.put, List.getElem_toArray, List.getElem_cons_succ, List.getElem_cons_zero, List.setIfInBounds_toArray, List.set_cons_zero, List.set_cons_succ]
                    refine wpAnyH_take (i := 18) (v := (.bool false)) rfl (by kernel_rfl) (by kernel_rfl) (by kernel_rfl) (fun _ _ _ h => h) (Or.inl ⟨by rfl, fun W _ => by go_simp⟩) hHeld ?_
                    try simp only [Act.put, List.getElem_toArray, List.getElem_cons_succ, List.getElem_cons_zero, List.setIfInBounds_toArray, List.set_cons_zero, List.set_cons_succ]
                    refine wpAnyH_take (i := 19) (v := (.bool false)) rfl (by kernel_rfl) (by kernel_rfl) (by kernel_rfl) (fun _ _ _ h => h) (Or.inl ⟨by rfl, fun W _ => by go_simp⟩) hHeld ?_
                    try simp only [Act.put, List.getElem_toArray, List.getElem_cons_succ, List.getElem_cons_zero, List.setIfInBounds_toArray, List.set_cons_zero, List.set_cons_succ]
                    refine wpAnyH_take (i := 20) (v := (.bool true)) rfl (by kernel_rfl) (by kernel_rfl) (by kernel_rfl) (fun _ _ _ h => h) (Or.inl ⟨by rfl, fun W _ => by go_simp⟩) hHeld ?_
                    try simp only [Act.put, List.getElem_toArray, List.getElem_cons_succ, List.getElem_cons_zero, List.setIfInBounds_toArray, List.set_cons_zero, List.set_cons_succ]
                    refine wpAnyH_take (i := 21) (v := (.bool false)) rfl (by kernel_rfl) (by kernel_rfl) (by kernel_rfl) (fun _ _ _ h => h) (Or.inl ⟨by rfl, fun W _ => by go_simp⟩) hHeld ?_
                    try simp only [Act.put, List.getElem_toArray, List.getElem_cons_succ, List.getElem_cons_zero, List.setIfInBounds_toArray, List.set_cons_zero, List.set_cons_succ]
                    refine wpAnyH_take (i := 22) (v := (.bool false)) rfl (by kernel_rfl) (by kernel_rfl) (by kernel_rfl) (fun _ _ _ h => h) (Or.inl ⟨by rfl, fun W _ => by go_simp⟩) hHeld ?_
                    try simp only [Act.put, List.getElem_toArray, List.getElem_cons_succ, List.getElem_cons_zero, List.setIfInBounds_toArray, List.set_cons_zero, List.set_cons_succ]
                    refine wpAnyH_take (i := 23) (v := undef) rfl (by kernel_rfl) (by kernel_rfl) (by kernel_rfl) (fun _ _ _ h => h) (Or.inr ⟨by rfl, rfl⟩) hHeld ?_
                    try simp only [Act.put, List.getElem_toArray, List.getElem_cons_succ, List.getElem_cons_zero, List.setIfInBounds_toArray, List.set_cons_zero, List.set_cons_succ]
                    refine wpAnyH_take (i := 24) (v := undef) rfl (by kernel_rfl) (by kernel_rfl) (by kernel_rfl) (fun _ _ _ h => h) (Or.inr ⟨by rfl, rfl⟩) hHeld ?_
                    try simp only [Act.put, List.getElem_toArray, List.getElem_cons_succ, List.getElem_cons_zero, List.setIfInBounds_toArray, List.set_cons_zero, List.set_cons_succ]
                    refine wpAnyH_ready (rs := [25]) (by kernel_rfl) (by simp) ?_
                    refine AllReadyH.cons rfl (fun K hK => ?_) AllReadyH.nil
                    rw [if_neg (by exact Bool.eq_false_iff.1 rfl)]
                    refine hK.out _ _ hHeld (fun hHeld2 => ?_)
                    clear hK K hHeld
                    have hHeld := hHeld2
                    clear hHeld2
                    try simp only [Act.put, List.getElem_toArray, List.getElem_cons_succ, List.getElem_cons_zero, List.setIfInBounds_toArray, List.set_cons_zero, List.set_cons_succ]
                    refine wpAnyH_take (i := 26) (v := undef) rfl (by kernel_rfl) (by kernel_rfl) (by kernel_rfl) (fun _ _ _ h => h) (Or.inr ⟨by rfl, rfl⟩) hHeld ?_
                    try simp only [Act.put, List.getElem_toArray, List.getElem_cons_succ, List.getElem_cons_zero, List.setIfInBounds_toArray, List.set_cons_zero, List.set_cons_succ]
                    refine wpAnyH_take (i := 27) (v := (.bool false)) rfl (by kernel_rfl) (by kernel_rfl) (by kernel_rfl) (fun _ _ _ h => h) (Or.inl ⟨by rfl, fun W _ => by go_simp⟩) hHeld ?_
                    try simp only [Act.put, List.getElem_toArray, List.getElem_cons_succ, List.getElem_cons_zero, List.setIfInBounds_toArray, List.set_cons_zero, List.set_cons_succ]
                    refine wpAnyH_take (i := 28) (v := (.bool false)) rfl (by kernel_rfl) (by kernel_rfl) (by kernel_rfl) (fun _ _ _ h => h) (Or.inl ⟨by rfl, fun W _ => by go_simp⟩) hHeld ?_
                    try simp only [Act.put, List.getElem_toArray, List.getElem_cons_succ, List.getElem_cons_zero, List.setIfInBounds_toArray, List.set_cons_zero, List.set_cons_succ]
                    refine wpAnyH_done (by kernel_rfl) ?_ _
                    have S9 := HS8.out.below hHeld
                    have hov := overValue k b m t x q p5 c5 wr.heap.size w5.heap.size _ HF2.out.1.hn (HeldT.stays (fun i _ a => hHeld.block i (by have := HQ.out.2; omega)) q HQ.out.1) (by have := HQ.out.2; have := hHeld.size; omega)
                    unfold OverPost at hov
                    have hI9 : ∀ W, Wrote wr.heap.size w5.heap.size _ W → DInv w (.slice pL n capL) (.slice (some ⟨bN, offN, none⟩) nN capN) g0 al al (.slice (some ⟨gA, 0, none⟩) al.length capA) F xs W := fun W h => (HIC.out.step hHeld).wrote h HLT.out (fun i f => by have := HFL.out i f; omega) (fun i f => by have := HAL.out i f; omega)
                    have HI9 := Lib.hid hI9
                    clear hI9 hHeld
                    go_wp2_with (first
                      | ((with_reducible refine wpList_load6 (.tmp 13) ec S9 ?_ ?_ ?_ ?_); rfl; rfl; rfl)
                      | (go_at_call 9; (with_reducible refine hov.mono ?_); rintro e w9 ⟨rfl, hw9⟩; have I9 := HI9.out _ hw9; clear hw9))
                    go_roundg (gk - 1)
                    case measure => omega
                    case rel => exact ⟨o + 1, by omega, by go_num, I9⟩
                  · have hval := valueNo wr g0 (al.map encS) F I.dic z (by rw [List.length_map]; omega)
                    have HAL : Hid (∀ i, ((.slice pA al.length capA) : Value).ownBlock = some i → i < wr.heap.size) := Lib.hid fun i h => (I.row.lt i h).2
                    by_cases hge : 0 ≤ z
                    all_goals
                      first | have hlt9 : ¬ z < al.length := fun h => hin ⟨hge, h⟩ | skip
                      have l1 := I.cell1
                      have cz := HZ.out _ I.bel
                      have HI := Lib.hid I
                      clear I hin
                      go_upto_region 34 with (go_at_call 13; (with_reducible refine hval.mono ?_); rintro e w5 ⟨rfl, hb5⟩; have HQ5 := Lib.hid hb5; clear hb5)
                      clear l1 cz hval
                      obtain ⟨C0, hC0⟩ : ∃ C0, C0 = w5.alloc (.cells #[.int .i64 0, .bool false, .int .i64 0, .string ⟨#[]⟩, .string ⟨#[]⟩, .slice none 0 0] 31) := ⟨_, rfl⟩
                      obtain ⟨ec, hec⟩ : ∃ ec, ec = w5.heap.size := ⟨_, rfl⟩
                      rw [← hC0, ← hec]
                      have bC : Below wr.heap.size wr C0 := by rw [hC0]; exact HQ5.out.alloc HQ5.out.size _
                      have S8 : Six C0 ec 0 false 0 ⟨#[]⟩ ⟨#[]⟩ none 0 0 := by rw [hC0, hec]; exact six_new _ rfl
                      have IC := HI.out.step bC
                      have hsm : ∀ W, Below C0.heap.size C0 W → Calls Tryz.prog 12 #[.agg #[.int .i64 0, .bool false, .int .i64 0, .string ⟨#[]⟩, .string ⟨#[]⟩, .slice none 0 0], .agg #[.int .i64 0, .bool false, .int .i64 0, .string ⟨#[]⟩, .string ⟨#[]⟩, .slice none 0 0]] W fun e w' => e = .returned (.bool true) ∧ Below W.heap.size W w' := fun W h => by
                        have := sameZAll (.mk 0 false 0 ⟨#[]⟩ ⟨#[]⟩ []) W 0 false 0 ⟨#[]⟩ ⟨#[]⟩ [] none 0 (.mk 0 false 0 ⟨#[]⟩ ⟨#[]⟩ []) 0 false 0 ⟨#[]⟩ ⟨#[]⟩ [] none 0 rfl rfl (by decide) (by unfold Held; exact ⟨none, 0, rfl⟩) (by unfold Held; exact ⟨none, 0, rfl⟩)
                        rw [sameP_refl] at this
                        exact this
                      have HSM := Lib.hid hsm
                      have HS8 := Lib.hid S8
                      have HBC := Lib.hid bC.size
                      have HIC := Lib.hid IC
                      have l1 := IC.cell1
                      have cz := HZ.out _ IC.bel
                      clear hC0 hec HQ5 bC S8 IC hsm HI
                      go_upto_region 35 with fail
                      clear l1 cz
                      refine wp_region_held_drew (S := fun W => Below C0.heap.size C0 W) (by kernel_rfl) (Below.refl _ _).drew (fun hHeld => ?_)
                      refine wpAnyH_take (i := 0) (v := (.bool false)) rfl (by kernel_rfl) (by kernel_rfl) (by kernel_rfl) (fun _ _ _ h => h) (Or.inl ⟨by rfl, fun W _ => by go_simp⟩) hHeld ?_
                      try simp only [Act.put, List.getElem_toArray, List.getElem_cons_succ, List.getElem_cons_zero, List.setIfInBounds_toArray, List.set_cons_zero, List.set_cons_succ]
                      refine wpAnyH_take (i := 1) (v := (.bool false)) rfl (by kernel_rfl) (by kernel_rfl) (by kernel_rfl) (fun _ _ _ h => h) (Or.inl ⟨by rfl, fun W _ => by go_simp⟩) hHeld ?_
                      try simp only [Act.put, List.getElem_toArray, List.getElem_cons_succ, List.getElem_cons_zero, List.setIfInBounds_toArray, List.set_cons_zero, List.set_cons_succ]
                      refine wpAnyH_take (i := 2) (v := (.bool false)) rfl (by kernel_rfl) (by kernel_rfl) (by kernel_rfl) (fun _ _ _ h => h) (Or.inl ⟨by rfl, fun W _ => by go_simp⟩) hHeld ?_
                      try simp only [Act.put, List.getElem_toArray, List.getElem_cons_succ, List.getElem_cons_zero, List.setIfInBounds_toArray, List.set_cons_zero, List.set_cons_succ]
                      refine wpAnyH_take (i := 3) (v := (.bool false)) rfl (by kernel_rfl) (by kernel_rfl) (by kernel_rfl) (fun _ _ _ h => h) (Or.inl ⟨by rfl, fun W _ => by go_simp⟩) hHeld ?_
                      try simp only [Act.put, List.getElem_toArray, List.getElem_cons_succ, List.getElem_cons_zero, List.setIfInBounds_toArray, List.set_cons_zero, List.set_cons_succ]
                      refine wpAnyH_take (i := 4) (v := (.bool false)) rfl (by kernel_rfl) (by kernel_rfl) (by kernel_rfl) (fun _ _ _ h => h) (Or.inl ⟨by rfl, fun W _ => by go_simp⟩) hHeld ?_
                      try simp only [Act.put, List.getElem_toArray, List.getElem_cons_succ, List.getElem_cons_zero, List.setIfInBounds_toArray, List.set_cons_zero, List.set_cons_succ]
                      refine wpAnyH_take (i := 5) (v := (.bool false)) rfl (by kernel_rfl) (by kernel_rfl) (by kernel_rfl) (fun _ _ _ h => h) (Or.inl ⟨by rfl, fun W _ => by go_simp⟩) hHeld ?_
                      try simp only [Act.put, List.getElem_toArray, List.getElem_cons_succ, List.getElem_cons_zero, List.setIfInBounds_toArray, List.set_cons_zero, List.set_cons_succ]
                      refine wpAnyH_take (i := 6) (v := undef) rfl (by kernel_rfl) (by kernel_rfl) (by kernel_rfl) (fun _ _ _ h => h) (Or.inr ⟨by rfl, rfl⟩) hHeld ?_
                      try simp only [Act.put, List.getElem_toArray, List.getElem_cons_succ, List.getElem_cons_zero, List.setIfInBounds_toArray, List.set_cons_zero, List.set_cons_succ]
                      refine wpAnyH_take (i := 7) (v := undef) rfl (by kernel_rfl) (by kernel_rfl) (by kernel_rfl) (fun _ _ _ h => h) (Or.inr ⟨by rfl, rfl⟩) hHeld ?_
                      try simp only [Act.put, List.getElem_toArray, List.getElem_cons_succ, List.getElem_cons_zero, List.setIfInBounds_toArray, List.set_cons_zero, List.set_cons_succ]
                      refine wpAnyH_take (i := 8) (v := undef) rfl (by kernel_rfl) (by kernel_rfl) (by kernel_rfl) (fun _ _ _ h => h) (Or.inr ⟨by rfl, rfl⟩) hHeld ?_
                      try simp only [Act.put, List.getElem_toArray, List.getElem_cons_succ, List.getElem_cons_zero, List.setIfInBounds_toArray, List.set_cons_zero, List.set_cons_succ]
                      refine wpAnyH_take (i := 9) (v := undef) rfl (by kernel_rfl) (by kernel_rfl) (by kernel_rfl) (fun _ _ _ h => h) (Or.inr ⟨by rfl, rfl⟩) hHeld ?_
                      try simp only [Act.put, List.getElem_toArray, List.getElem_cons_succ, List.getElem_cons_zero, List.setIfInBounds_toArray, List.set_cons_zero, List.set_cons_succ]
                      refine wpAnyH_take (i := 10) (v := undef) rfl (by kernel_rfl) (by kernel_rfl) (by kernel_rfl) (fun _ _ _ h => h) (Or.inr ⟨by rfl, rfl⟩) hHeld ?_
                      try simp only [Act.put, List.getElem_toArray, List.getElem_cons_succ, List.getElem_cons_zero, List.setIfInBounds_toArray, List.set_cons_zero, List.set_cons_succ]
                      refine wpAnyH_take (i := 11) (v := undef) rfl (by kernel_rfl) (by kernel_rfl) (by kernel_rfl) (fun _ _ _ h => h) (Or.inr ⟨by rfl, rfl⟩) hHeld ?_
                      try simp only [Act.put, List.getElem_toArray, List.getElem_cons_succ, List.getElem_cons_zero, List.setIfInBounds_toArray, List.set_cons_zero, List.set_cons_succ]
                      refine wpAnyH_take (i := 12) (v := undef) rfl (by kernel_rfl) (by kernel_rfl) (by kernel_rfl) (fun _ _ _ h => h) (Or.inr ⟨by rfl, rfl⟩) hHeld ?_
                      try simp only [Act.put, List.getElem_toArray, List.getElem_cons_succ, List.getElem_cons_zero, List.setIfInBounds_toArray, List.set_cons_zero, List.set_cons_succ]
                      refine wpAnyH_take (i := 13) (v := undef) rfl (by kernel_rfl) (by kernel_rfl) (by kernel_rfl) (fun _ _ _ h => h) (Or.inr ⟨by rfl, rfl⟩) hHeld ?_
                      try simp only [Act.put, List.getElem_toArray, List.getElem_cons_succ, List.getElem_cons_zero, List.setIfInBounds_toArray, List.set_cons_zero, List.set_cons_succ]
                      refine wpAnyH_take (i := 14) (v := undef) rfl (by kernel_rfl) (by kernel_rfl) (by kernel_rfl) (fun _ _ _ h => h) (Or.inr ⟨by rfl, rfl⟩) hHeld ?_
                      try simp only [Act.put, List.getElem_toArray, List.getElem_cons_succ, List.getElem_cons_zero, List.setIfInBounds_toArray, List.set_cons_zero, List.set_cons_succ]
                      refine wpAnyH_ready (rs := [15]) (by kernel_rfl) (by simp) ?_
                      refine AllReadyH.cons rfl (fun K hK => ?_) AllReadyH.nil
                      rw [if_neg (by exact Bool.eq_false_iff.1 rfl)]
                      refine hK.out _ _ hHeld (fun hHeld2 => ?_)
                      clear hK K hHeld
                      have hHeld := hHeld2
                      clear hHeld2
                      try simp only [Act.put, List.getElem_toArray, List.getElem_cons_succ, List.getElem_cons_zero, List.setIfInBounds_toArray, List.set_cons_zero, List.set_cons_succ]
                      refine wpAnyH_take (i := 16) (v := undef) rfl (by kernel_rfl) (by kernel_rfl) (by kernel_rfl) (fun _ _ _ h => h) (Or.inr ⟨by rfl, rfl⟩) hHeld ?_
                      try simp only [Act.put, List.getElem_toArray, List.getElem_cons_succ, List.getElem_cons_zero, List.setIfInBounds_toArray, List.set_cons_zero, List.set_cons_succ]
                      refine wpAnyH_take (i := 17) (v := (.bool false)) rfl (by kernel_rfl) (by kernel_rfl) (by kernel_rfl) (fun _ _ _ h => h) (Or.inl ⟨by rfl, fun W _ => by go_simp⟩) hHeld ?_
                      try simp only [Act.put, List.getElem_toArray, List.getElem_cons_succ, List.getElem_cons_zero, List.setIfInBounds_toArray, List.set_cons_zero, List.set_cons_succ]
                      refine wpAnyH_take (i := 18) (v := (.bool false)) rfl (by kernel_rfl) (by kernel_rfl) (by kernel_rfl) (fun _ _ _ h => h) (Or.inl ⟨by rfl, fun W _ => by go_simp⟩) hHeld ?_
                      try simp only [Act.put, List.getElem_toArray, List.getElem_cons_succ, List.getElem_cons_zero, List.setIfInBounds_toArray, List.set_cons_zero, List.set_cons_succ]
                      refine wpAnyH_take (i := 19) (v := (.bool false)) rfl (by kernel_rfl) (by kernel_rfl) (by kernel_rfl) (fun _ _ _ h => h) (Or.inl ⟨by rfl, fun W _ => by go_simp⟩) hHeld ?_
                      try simp only [Act.put, List.getElem_toArray, List.getElem_cons_succ, List.getElem_cons_zero, List.setIfInBounds_toArray, List.set_cons_zero, List.set_cons_succ]
                      refine wpAnyH_take (i := 20) (v := (.bool false)) rfl (by kernel_rfl) (by kernel_rfl) (by kernel_rfl) (fun _ _ _ h => h) (Or.inl ⟨by rfl, fun W _ => by go_simp⟩) hHeld ?_
                      try simp only [Act.put, List.getElem_toArray, List.getElem_cons_succ, List.getElem_cons_zero, List.setIfInBounds_toArray, List.set_cons_zero, List.set_cons_succ]
                      refine wpAnyH_take (i := 21) (v := (.bool true)) rfl (by kernel_rfl) (by kernel_rfl) (by kernel_rfl) (fun _ _ _ h => h) (Or.inl ⟨by rfl, fun W _ => by go_simp⟩) hHeld ?_
                      try simp only [Act.put, List.getElem_toArray, List.getElem_cons_succ, List.getElem_cons_zero, List.setIfInBounds_toArray, List.set_cons_zero, List.set_cons_succ]
                      refine wpAnyH_take (i := 22) (v := (.bool true)) rfl (by kernel_rfl) (by kernel_rfl) (by kernel_rfl) (fun _ _ _ h => h) (Or.inl ⟨by rfl, fun W _ => by go_simp⟩) hHeld ?_
                      try simp only [Act.put, List.getElem_toArray, List.getElem_cons_succ, List.getElem_cons_zero, List.setIfInBounds_toArray, List.set_cons_zero, List.set_cons_succ]
                      refine wpAnyH_take (i := 23) rfl (by kernel_rfl) (by kernel_rfl) (by kernel_rfl) (fun _ _ _ h => h) (yields6 (by rfl) (.tmp 13) rfl ec rfl (fun _ h => HS8.out.below h)) hHeld ?_
                      try simp only [Act.put, List.getElem_toArray, List.getElem_cons_succ, List.getElem_cons_zero, List.setIfInBounds_toArray, List.set_cons_zero, List.set_cons_succ]
                      refine wpAnyH_take (i := 24) (v := (.agg #[.int .i64 0, .bool false, .int .i64 0, .string ⟨#[]⟩, .string ⟨#[]⟩, .slice none 0 0])) rfl (by kernel_rfl) (by kernel_rfl) (by kernel_rfl) (fun _ _ _ h => h) (Or.inl ⟨by rfl, fun W _ => by go_simp⟩) hHeld ?_
                      try simp only [Act.put, List.getElem_toArray, List.getElem_cons_succ, List.getElem_cons_zero, List.setIfInBounds_toArray, List.set_cons_zero, List.set_cons_succ]
                      refine wpAnyH_ready (rs := [25]) (by kernel_rfl) (by simp) ?_
                      refine AllReadyH.cons rfl (fun K hK => ?_) AllReadyH.nil
                      rw [if_pos (by rfl)]
                      go_simp
                      refine (HSM.out _ hHeld).mono ?_
                      rintro e w7 ⟨rfl, hb7⟩
                      refine hK.out _ _ (below_any hHeld hb7 hHeld.size) (fun hHeld2 => ?_)
                      clear hK K hb7 hHeld
                      have hHeld := hHeld2
                      clear hHeld2
                      try simp only [Act.put, List.getElem_toArray, List.getElem_cons_succ, List.getElem_cons_zero, List.setIfInBounds_toArray, List.set_cons_zero, List.set_cons_succ]
                      refine wpAnyH_take (i := 26) (v := (.bool false)) rfl (by kernel_rfl) (by kernel_rfl) (by kernel_rfl) (fun _ _ _ h => h) (Or.inl ⟨by rfl, fun W _ => by go_simp⟩) hHeld ?_
                      try simp only [Act.put, List.getElem_toArray, List.getElem_cons_succ, List.getElem_cons_zero, List.setIfInBounds_toArray, List.set_cons_zero, List.set_cons_succ]
                      refine wpAnyH_take (i := 27) (v := (.bool false)) rfl (by kernel_rfl) (by kernel_rfl) (by kernel_rfl) (fun _ _ _ h => h) (Or.inl ⟨by rfl, fun W _ => by go_simp⟩) hHeld ?_
                      try simp only [Act.put, List.getElem_toArray, List.getElem_cons_succ, List.getElem_cons_zero, List.setIfInBounds_toArray, List.set_cons_zero, List.set_cons_succ]
                      refine wpAnyH_take (i := 28) (v := (.bool false)) rfl (by kernel_rfl) (by kernel_rfl) (by kernel_rfl) (fun _ _ _ h => h) (Or.inl ⟨by rfl, fun W _ => by go_simp⟩) hHeld ?_
                      try simp only [Act.put, List.getElem_toArray, List.getElem_cons_succ, List.getElem_cons_zero, List.setIfInBounds_toArray, List.set_cons_zero, List.set_cons_succ]
                      refine wpAnyH_done (by kernel_rfl) ?_ _
                      have S9 := HS8.out.below hHeld
                      have hov : Calls Tryz.prog 9 #[.agg #[.int .i64 0, .bool false, .int .i64 0, .string ⟨#[]⟩, .string ⟨#[]⟩, .slice none 0 0]] w7 (OverPost w7 wr.heap.size wr.heap.size) := overValue 0 false 0 ⟨#[]⟩ ⟨#[]⟩ [] none 0 wr.heap.size wr.heap.size _ (by decide) (by unfold HeldT; exact ⟨none, 0, rfl⟩) (by have := HBC.out; have := hHeld.size; omega)
                      unfold OverPost at hov
                      have hI9 : ∀ W, Wrote wr.heap.size wr.heap.size _ W → DInv w (.slice pL n capL) (.slice (some ⟨bN, offN, none⟩) nN capN) g0 al al (.slice pA al.length capA) F xs W := fun W h => (HIC.out.step hHeld).wrote h HLT.out (fun i f => by have := HFL.out i f; omega) (fun i f => by have := HAL.out i f; omega)
                      have HI9 := Lib.hid hI9
                      clear hI9 hHeld
                      go_wp2_with (first
                        | ((with_reducible refine wpList_load6 (.tmp 13) ec S9 ?_ ?_ ?_ ?_); rfl; rfl; rfl)
                        | (go_at_call 9; (with_reducible refine hov.mono ?_); rintro e w9 ⟨rfl, hw9⟩; have I9 := HI9.out _ hw9; clear hw9))
                      go_roundg (gk - 1)
                      case measure => omega
                      case rel => exact ⟨o + 1, by omega, by go_num, I9⟩
                · go_wp2_with fail
                  go_roundg (nN - (i + 1))
                  case measure => omega
                  case rel => exact ⟨i + 1, by omega, by go_num, I⟩
            · go_wp2_with (go_at_call 5; (with_reducible refine (hwk _ I.bel).mono ?_); rintro e w' ⟨rfl, hb⟩; replace I := I.step hb)
              go_ret
              exact ⟨rfl, I.bel⟩
          · go_wp2_with (go_at_call 5; (with_reducible refine (hwk _ I.bel).mono ?_); rintro e w' ⟨rfl, hb⟩; replace I := I.step hb)
            go_ret
            exact ⟨rfl, I.bel⟩
    · skip
      go_wp2_with fail
      go_loopg [11] nN (fun gg s11 wr => ∃ i : Nat, i + gg = nN ∧ s11 = .int .i64 i ∧ DInv w (.slice pL n capL) (.slice pN nN capN) g0 al al (.slice pA al.length capA) F xs wr)
      case atStart => exact ⟨0, by omega, rfl, I⟩
      case round =>
        clear I hp
        obtain ⟨i, hig, rfl, I⟩ := hrel
        have hp := I.cell1
        by_cases hlt3 : (i : Int) < nN
        · by_cases h30 : (i : Int) < 30
          · obtain ⟨bN, offN, rfl, hZ⟩ := HNN.out (by omega)
            obtain ⟨z, hz⟩ : ∃ z, z = Z i := ⟨_, rfl⟩
            have HZ : Hid (∀ W, Below w.heap.size w W → W.cell? ⟨bN, offN + i, none⟩ = some (.int .i64 z)) := Lib.hid fun W h => by
              have h1 := hZ i (by omega)
              rw [← hz] at h1
              exact (h.cell (p := ⟨bN, offN + i, none⟩) (World.block_lt_of_cell? w _ h1)).trans h1
            clear hZ hz
            go_wp2_with fail
            go_loopg [12] 2 (fun gg s12 wr => ∃ o : Nat, o + gg = 2 ∧ s12 = .int .i64 o ∧ DInv w (.slice pL n capL) (.slice (some ⟨bN, offN, none⟩) nN capN) g0 al al (.slice pA al.length capA) F xs wr)
            case atStart => exact ⟨0, by omega, rfl, I⟩
            case round =>
              clear I hp
              obtain ⟨o, hog, rfl, I⟩ := hrel
              by_cases ho2 : (o : Int) < 2
              · have HLT := Lib.hid I.lt
                have HFL : Hid (∀ i, F i → i < wr.heap.size) := Lib.hid fun i f => I.dic.lt f
                by_cases hin : 0 ≤ z ∧ z < al.length
                · obtain ⟨jz, rfl⟩ := Int.eq_ofNat_of_zero_le hin.1
                  have hjz : jz < al.length := by omega
                  obtain ⟨⟨k, b, m, t, x, q⟩, hu⟩ : ∃ u, al[jz]? = some u := ⟨_, List.getElem?_eq_getElem hjz⟩
                  have hok := HV.out _ (List.mem_of_getElem? hu)
                  have hval := valueYes (.mk k b m t x q) k b m t x q rfl hok.2.1 hok.1 wr (HGG.out.below I.bel) g0 (al.map encS) F I.dic jz (by rw [List.getElem?_map, hu]; rfl) (by rw [List.length_map]; unfold maxLen; omega) hok.2.2
                  unfold VPost at hval
                  obtain ⟨gA, capA2, p2, c2, eA, hR, hf2, hh2⟩ := I.elem jz hu
                  injection eA with eA1 eA2 eA3
                  subst eA1
                  clear eA2 eA3
                  have HR := Lib.hid hR
                  have HAL : Hid (∀ i, (Value.slice (some ⟨gA, 0, none⟩) al.length capA).ownBlock = some i → i < wr.heap.size) := Lib.hid fun i h => (I.row.lt i h).2
                  have HF2 := Lib.hid (And.intro hf2 hh2)
                  have l1 := I.cell1
                  have cz := HZ.out _ I.bel
                  have HI := Lib.hid I
                  have hge : (0 : Int) ≤ (jz : Int) := hin.1
                  have hlt9 : (jz : Int) < al.length := hin.2
                  clear I hok hu hR hf2 hh2 hin
                  go_upto_region 34 with (go_at_call 13; (with_reducible refine hval.mono ?_); rintro e w5 ⟨p5, c5, rfl, hh5, hb5⟩; have HQ5 := Lib.hid (And.intro hh5 hb5); clear hh5 hb5)
                  clear l1 cz hval
                  obtain ⟨C0, hC0⟩ : ∃ C0, C0 = w5.alloc (.cells #[.int .i64 k, .bool b, .int .i64 m, .string t, .string x, .slice p5 q.length c5] 31) := ⟨_, rfl⟩
                  obtain ⟨ec, hec⟩ : ∃ ec, ec = w5.heap.size := ⟨_, rfl⟩
                  rw [← hC0, ← hec]
                  have zC : w5.heap.size ≤ C0.heap.size := by rw [hC0]; simp
                  have bC : Below wr.heap.size wr C0 := by rw [hC0]; exact HQ5.out.2.alloc HQ5.out.2.size _
                  have S8 : Six C0 ec k b m t x p5 q.length c5 := by rw [hC0, hec]; exact six_new _ rfl
                  have hq5 : HeldT C0 wr.heap.size w5.heap.size (.slice p5 q.length c5) q := HeldT.stays (fun i _ a => by rw [hC0]; exact Below.heap_alloc _ _ _ a) q HQ5.out.1
                  have IC := HI.out.step bC
                  have hsm : ∀ W, Below C0.heap.size C0 W → Calls Tryz.prog 12 #[.agg #[.int .i64 k, .bool b, .int .i64 m, .string t, .string x, .slice p5 q.length c5], .agg #[.int .i64 k, .bool b, .int .i64 m, .string t, .string x, .slice p2 q.length c2]] W fun e w' => e = .returned (.bool true) ∧ Below W.heap.size W w' := fun W h => by
                    have := sameZAll (.mk k b m t x q) W k b m t x q p5 c5 (.mk k b m t x q) k b m t x q p2 c2 rfl rfl HF2.out.1.hn (Held.below q (HeldT.held q hq5) h) (Held.below q HF2.out.2 (IC.step h).bel)
                    rw [sameP_refl] at this
                    exact this
                  have HSM := Lib.hid hsm
                  have HS8 := Lib.hid S8
                  have HQ := Lib.hid (And.intro hq5 zC)
                  have HIC := Lib.hid IC
                  have l1 := IC.cell1
                  have cz := HZ.out _ IC.bel
                  clear hC0 hec HQ5 bC S8 hq5 IC hsm HI zC
                  go_upto_region 35 with fail
                  clear l1 cz
                  refine wp_region_held_drew (S := fun W => Below C0.heap.size C0 W) (by kernel_rfl) (Below.refl _ _).drew (fun hHeld => ?_)
                  refine wpAnyH_take (i := 0) (v := (.bool true)) rfl (by kernel_rfl) (by kernel_rfl) (by kernel_rfl) (fun _ _ _ h => h) (Or.inl ⟨by rfl, fun W _ => by go_simp⟩) hHeld ?_
                  try simp only [Act.put, List.getElem_toArray, List.getElem_cons_succ, List.getElem_cons_zero, List.setIfInBounds_toArray, List.set_cons_zero, List.set_cons_succ]
                  refine wpAnyH_take (i := 1) (v := (.bool true)) rfl (by kernel_rfl) (by kernel_rfl) (by kernel_rfl) (fun _ _ _ h => h) (Or.inl ⟨by rfl, fun W _ => by go_simp⟩) hHeld ?_
                  try simp only [Act.put, List.getElem_toArray, List.getElem_cons_succ, List.getElem_cons_zero, List.setIfInBounds_toArray, List.set_cons_zero, List.set_cons_succ]
                  refine wpAnyH_take (i := 2) (v := (.bool false)) rfl (by kernel_rfl) (by kernel_rfl) (by kernel_rfl) (fun _ _ _ h => h) (Or.inl ⟨by rfl, fun W _ => by go_simp⟩) hHeld ?_
                  try simp only [Act.put, List.getElem_toArray, List.getElem_cons_succ, List.getElem_cons_zero, List.setIfInBounds_toArray, List.set_cons_zero, List.set_cons_succ]
                  refine wpAnyH_take (i := 3) (v := (.bool false)) rfl (by kernel_rfl) (by kernel_rfl) (by kernel_rfl) (fun _ _ _ h => h) (Or.inl ⟨by rfl, fun W _ => by go_simp⟩) hHeld ?_
                  try simp only [Act.put, List.getElem_toArray, List.getElem_cons_succ, List.getElem_cons_zero, List.setIfInBounds_toArray, List.set_cons_zero, List.set_cons_succ]
                  refine wpAnyH_take (i := 4) (v := (.bool true)) rfl (by kernel_rfl) (by kernel_rfl) (by kernel_rfl) (fun _ _ _ h => h) (Or.inl ⟨by rfl, fun W _ => by go_simp⟩) hHeld ?_
                  try simp only [Act.put, List.getElem_toArray, List.getElem_cons_succ, List.getElem_cons_zero, List.setIfInBounds_toArray, List.set_cons_zero, List.set_cons_succ]
                  refine wpAnyH_take (i := 5) (v := (.bool true)) rfl (by kernel_rfl) (by kernel_rfl) (by kernel_rfl) (fun _ _ _ h => h) (Or.inl ⟨by rfl, fun W _ => by go_simp⟩) hHeld ?_
                  try simp only [Act.put, List.getElem_toArray, List.getElem_cons_succ, List.getElem_cons_zero, List.setIfInBounds_toArray, List.set_cons_zero, List.set_cons_succ]
                  refine wpAnyH_take (i := 6) rfl (by kernel_rfl) (by kernel_rfl) (by kernel_rfl) (fun _ _ _ h => h) (yields6 (by rfl) (.tmp 13) rfl ec rfl (fun _ h => HS8.out.below h)) hHeld ?_
                  try simp only [Act.put, List.getElem_toArray, List.getElem_cons_succ, List.getElem_cons_zero, List.setIfInBounds_toArray, List.set_cons_zero, List.set_cons_succ]
                  refine wpAnyH_take (i := 7) (v := (.slice (some ⟨gA, 0, none⟩) al.length capA)) rfl (by kernel_rfl) (by kernel_rfl) (by kernel_rfl) (fun _ _ _ h => h) (Or.inl ⟨by rfl, fun W _ => by go_simp⟩) hHeld ?_
                  try simp only [Act.put, List.getElem_toArray, List.getElem_cons_succ, List.getElem_cons_zero, List.setIfInBounds_toArray, List.set_cons_zero, List.set_cons_succ]
                  refine wpAnyH_take (i := 8) (v := (.pointer (some ⟨w.heap.size, 1, none⟩))) rfl (by kernel_rfl) (by kernel_rfl) (by kernel_rfl) (fun _ _ _ h => h) (Or.inl ⟨by rfl, fun W _ => by go_simp⟩) hHeld ?_
                  try simp only [Act.put, List.getElem_toArray, List.getElem_cons_succ, List.getElem_cons_zero, List.setIfInBounds_toArray, List.set_cons_zero, List.set_cons_succ]
                  refine wpAnyH_take (i := 9) (v := (.slice (some ⟨bN, offN, none⟩) nN capN)) rfl (by kernel_rfl) (by kernel_rfl) (by kernel_rfl) (fun _ _ _ h => h) (Or.inl ⟨by rfl, fun W h => by have c := (HIC.out.step h).cell1; go_simp⟩) hHeld ?_
                  try simp only [Act.put, List.getElem_toArray, List.getElem_cons_succ, List.getElem_cons_zero, List.setIfInBounds_toArray, List.set_cons_zero, List.set_cons_succ]
                  refine wpAnyH_take (i := 10) (v := (.int .i64 i)) rfl (by kernel_rfl) (by kernel_rfl) (by kernel_rfl) (fun _ _ _ h => h) (Or.inl ⟨by rfl, fun W _ => by go_simp⟩) hHeld ?_
                  try simp only [Act.put, List.getElem_toArray, List.getElem_cons_succ, List.getElem_cons_zero, List.setIfInBounds_toArray, List.set_cons_zero, List.set_cons_succ]
                  refine wpAnyH_take (i := 11) (v := (.pointer (some ⟨bN, offN + i, none⟩))) rfl (by kernel_rfl) (by kernel_rfl) (by kernel_rfl) (fun _ _ _ h => h) (Or.inl ⟨by rfl, fun W _ => by go_simp <;> (intro h; exfalso; omega)⟩) hHeld ?_
                  try simp only [Act.put, List.getElem_toArray, List.getElem_cons_succ, List.getElem_cons_zero, List.setIfInBounds_toArray, List.set_cons_zero, List.set_cons_succ]
                  refine wpAnyH_take (i := 12) (v := (.int .i64 jz)) rfl (by kernel_rfl) (by kernel_rfl) (by kernel_rfl) (fun _ _ _ h => h) (Or.inl ⟨by rfl, fun W h => by have c := HZ.out W (HIC.out.step h).bel; go_simp⟩) hHeld ?_
                  try simp only [Act.put, List.getElem_toArray, List.getElem_cons_succ, List.getElem_cons_zero, List.setIfInBounds_toArray, List.set_cons_zero, List.set_cons_succ]
                  refine wpAnyH_take (i := 13) (v := (.pointer (some ⟨gA, jz * 6, none⟩))) rfl (by kernel_rfl) (by kernel_rfl) (by kernel_rfl) (fun _ _ _ h => h) (Or.inl ⟨by rfl, fun W _ => by go_simp <;> (intro h; exfalso; omega)⟩) hHeld ?_
                  try simp only [Act.put, List.getElem_toArray, List.getElem_cons_succ, List.getElem_cons_zero, List.setIfInBounds_toArray, List.set_cons_zero, List.set_cons_succ]
                  refine wpAnyH_take (i := 14) rfl (by kernel_rfl) (by kernel_rfl) (by kernel_rfl) (fun _ _ _ h => h) (yieldsIf_load_mid (by rfl) 31 (.tmp 166) rfl gA (jz * 6) rfl _ _ (fun W h => HR.out W (HIC.out.step h)) Tryz.underlying31 rfl info28) hHeld ?_
                  try simp only [Act.put, List.getElem_toArray, List.getElem_cons_succ, List.getElem_cons_zero, List.setIfInBounds_toArray, List.set_cons_zero, List.set_cons_succ]
                  refine wpAnyH_ready (rs := [15]) (by kernel_rfl) (by simp) ?_
                  refine AllReadyH.cons rfl (fun K hK => ?_) AllReadyH.nil
                  rw [if_pos (by rfl)]
                  go_simp
                  refine (HSM.out _ hHeld).mono ?_
                  rintro e w7 ⟨rfl, hb7⟩
                  refine hK.out _ _ (below_any hHeld hb7 hHeld.size) (fun hHeld2 => ?_)
                  clear hK K hb7 hHeld
                  have hHeld := hHeld2
                  clear hHeld2
                  try simp only [Act.put, List.getElem_toArray, List.getElem_cons_succ, List.getElem_cons_zero, List.setIfInBounds_toArray, List.set_cons_zero, List.set_cons_succ]
                  refine wpAnyH_take (i := 16) (v := (.bool false)) rfl (by kernel_rfl) (by kernel_rfl) (by kernel_rfl) (fun _ _ _ h => h) (Or.inl ⟨by rfl, fun W _ => by go_simp⟩) hHeld ?_
                  try simp only [Act.put, List.getElem_toArray, List.getElem_cons_succ, List.getElem_cons_zero, List.setIfInBounds_toArray, List.set_cons_zero, List.set_cons_succ]
                  refine wpAnyH_take (i := 17) (v := (.bool false)) rfl (by kernel_rfl) (by kernel_rfl) (by kernel_rfl) (fun _ _ _ h => h) (Or.inl ⟨by rfl, fun W _ => by go_simp⟩) hHeld ?_
                  try simp only [Act.put, List.getElem_toArray, List.getElem_cons_succ, List.getElem_cons_zero, List.setIfInBounds_toArray, List.set_cons_zero, List.set_cons_succ]
                  refine wpAnyH_take (i := 18) (v := (.bool false)) rfl (by kernel_rfl) (by kernel_rfl) (by kernel_rfl) (fun _ _ _ h => h) (Or.inl ⟨by rfl, fun W _ => by go_simp⟩) hHeld ?_
                  try simp only [Act.put, List.getElem_toArray, List.getElem_cons_succ, List.getElem_cons_zero, List.setIfInBounds_toArray, List.set_cons_zero, List.set_cons_succ]
                  refine wpAnyH_take (i := 19) (v := (.bool false)) rfl (by kernel_rfl) (by kernel_rfl) (by kernel_rfl) (fun _ _ _ h => h) (Or.inl ⟨by rfl, fun W _ => by go_simp⟩) hHeld ?_
                  try simp only [Act.put, List.getElem_toArray, List.getElem_cons_succ, List.getElem_cons_zero, List.setIfInBounds_toArray, List.set_cons_zero, List.set_cons_succ]
                  refine wpAnyH_take (i := 20) (v := (.bool true)) rfl (by kernel_rfl) (by kernel_rfl) (by kernel_rfl) (fun _ _ _ h => h) (Or.inl ⟨by rfl, fun W _ => by go_simp⟩) hHeld ?_
                  try simp only [Act.put, List.getElem_toArray, List.getElem_cons_succ, List.getElem_cons_zero, List.setIfInBounds_toArray, List.set_cons_zero, List.set_cons_succ]
                  refine wpAnyH_take (i := 21) (v := (.bool false)) rfl (by kernel_rfl) (by kernel_rfl) (by kernel_rfl) (fun _ _ _ h => h) (Or.inl ⟨by rfl, fun W _ => by go_simp⟩) hHeld ?_
                  try simp only [Act.put, List.getElem_toArray, List.getElem_cons_succ, List.getElem_cons_zero, List.setIfInBounds_toArray, List.set_cons_zero, List.set_cons_succ]
                  refine wpAnyH_take (i := 22) (v := (.bool false)) rfl (by kernel_rfl) (by kernel_rfl) (by kernel_rfl) (fun _ _ _ h => h) (Or.inl ⟨by rfl, fun W _ => by go_simp⟩) hHeld ?_
                  try simp only [Act.put, List.getElem_toArray, List.getElem_cons_succ, List.getElem_cons_zero, List.setIfInBounds_toArray, List.set_cons_zero, List.set_cons_succ]
                  refine wpAnyH_take (i := 23) (v := undef) rfl (by kernel_rfl) (by kernel_rfl) (by kernel_rfl) (fun _ _ _ h => h) (Or.inr ⟨by rfl, rfl⟩) hHeld ?_
                  try simp only [Act.put, List.getElem_toArray, List.getElem_cons_succ, List.getElem_cons_zero, List.setIfInBounds_toArray, List.set_cons_zero, List.set_cons_succ]
                  refine wpAnyH_take (i := 24) (v := undef) rfl (by kernel_rfl) (by kernel_rfl) (by kernel_rfl) (fun _ _ _ h => h) (Or.inr ⟨by rfl, rfl⟩) hHeld ?_
                  try simp only [Act.put, List.getElem_toArray, List.getElem_cons_succ, List.getElem_cons_zero, List.setIfInBounds_toArray, List.set_cons_zero, List.set_cons_succ]
                  refine wpAnyH_ready (rs := [25]) (by kernel_rfl) (by simp) ?_
                  refine AllReadyH.cons rfl (fun K hK => ?_) AllReadyH.nil
                  rw [if_neg (by exact Bool.eq_false_iff.1 rfl)]
                  refine hK.out _ _ hHeld (fun hHeld2 => ?_)
                  clear hK K hHeld
                  have hHeld := hHeld2
                  clear hHeld2
                  try simp only [Act.put, List.getElem_toArray, List.getElem_cons_succ, List.getElem_cons_zero, List.setIfInBounds_toArray, List.set_cons_zero, List.set_cons_succ]
                  refine wpAnyH_take (i := 26) (v := undef) rfl (by kernel_rfl) (by kernel_rfl) (by kernel_rfl) (fun _ _ _ h => h) (Or.inr ⟨by rfl, rfl⟩) hHeld ?_
                  try simp only [Act.put, List.getElem_toArray, List.getElem_cons_succ, List.getElem_cons_zero, List.setIfInBounds_toArray, List.set_cons_zero, List.set_cons_succ]
                  refine wpAnyH_take (i := 27) (v := (.bool false)) rfl (by kernel_rfl) (by kernel_rfl) (by kernel_rfl) (fun _ _ _ h => h) (Or.inl ⟨by rfl, fun W _ => by go_simp⟩) hHeld ?_
                  try simp only [Act.put, List.getElem_toArray, List.getElem_cons_succ, List.getElem_cons_zero, List.setIfInBounds_toArray, List.set_cons_zero, List.set_cons_succ]
                  refine wpAnyH_take (i := 28) (v := (.bool false)) rfl (by kernel_rfl) (by kernel_rfl) (by kernel_rfl) (fun _ _ _ h => h) (Or.inl ⟨by rfl, fun W _ => by go_simp⟩) hHeld ?_
                  try simp only [Act.put, List.getElem_toArray, List.getElem_cons_succ, List.getElem_cons_zero, List.setIfInBounds_toArray, List.set_cons_zero, List.set_cons_succ]
                  refine wpAnyH_done (by kernel_rfl) ?_ _
                  have S9 := HS8.out.below hHeld
                  have hov := overValue k b m t x q p5 c5 wr.heap.size w5.heap.size _ HF2.out.1.hn (HeldT.stays (fun i _ a => hHeld.block i (by have := HQ.out.2; omega)) q HQ.out.1) (by have := HQ.out.2; have := hHeld.size; omega)
                  unfold OverPost at hov
                  have hI9 : ∀ W, Wrote wr.heap.size w5.heap.size _ W → DInv w (.slice pL n capL) (.slice (some ⟨bN, offN, none⟩) nN capN) g0 al al (.slice (some ⟨gA, 0, none⟩) al.length capA) F xs W := fun W h => (HIC.out.step hHeld).wrote h HLT.out (fun i f => by have := HFL.out i f; omega) (fun i f => by have := HAL.out i f; omega)
                  have HI9 := Lib.hid hI9
                  clear hI9 hHeld
                  go_wp2_with (first
                    | ((with_reducible refine wpList_load6 (.tmp 13) ec S9 ?_ ?_ ?_ ?_); rfl; rfl; rfl)
                    | (go_at_call 9; (with_reducible refine hov.mono ?_); rintro e w9 ⟨rfl, hw9⟩; have I9 := HI9.out _ hw9; clear hw9))
                  go_roundg (gk - 1)
                  case measure => omega
                  case rel => exact ⟨o + 1, by omega, by go_num, I9⟩
                · have hval := valueNo wr g0 (al.map encS) F I.dic z (by rw [List.length_map]; omega)
                  have HAL : Hid (∀ i, ((.slice pA al.length capA) : Value).ownBlock = some i → i < wr.heap.size) := Lib.hid fun i h => (I.row.lt i h).2
                  by_cases hge : 0 ≤ z
                  all_goals
                    first | have hlt9 : ¬ z < al.length := fun h => hin ⟨hge, h⟩ | skip
                    have l1 := I.cell1
                    have cz := HZ.out _ I.bel
                    have HI := Lib.hid I
                    clear I hin
                    go_upto_region 34 with (go_at_call 13; (with_reducible refine hval.mono ?_); rintro e w5 ⟨rfl, hb5⟩; have HQ5 := Lib.hid hb5; clear hb5)
                    clear l1 cz hval
                    obtain ⟨C0, hC0⟩ : ∃ C0, C0 = w5.alloc (.cells #[.int .i64 0, .bool false, .int .i64 0, .string ⟨#[]⟩, .string ⟨#[]⟩, .slice none 0 0] 31) := ⟨_, rfl⟩
                    obtain ⟨ec, hec⟩ : ∃ ec, ec = w5.heap.size := ⟨_, rfl⟩
                    rw [← hC0, ← hec]
                    have bC : Below wr.heap.size wr C0 := by rw [hC0]; exact HQ5.out.alloc HQ5.out.size _
                    have S8 : Six C0 ec 0 false 0 ⟨#[]⟩ ⟨#[]⟩ none 0 0 := by rw [hC0, hec]; exact six_new _ rfl
                    have IC := HI.out.step bC
                    have hsm : ∀ W, Below C0.heap.size C0 W → Calls Tryz.prog 12 #[.agg #[.int .i64 0, .bool false, .int .i64 0, .string ⟨#[]⟩, .string ⟨#[]⟩, .slice none 0 0], .agg #[.int .i64 0, .bool false, .int .i64 0, .string ⟨#[]⟩, .string ⟨#[]⟩, .slice none 0 0]] W fun e w' => e = .returned (.bool true) ∧ Below W.heap.size W w' := fun W h => by
                      have := sameZAll (.mk 0 false 0 ⟨#[]⟩ ⟨#[]⟩ []) W 0 false 0 ⟨#[]⟩ ⟨#[]⟩ [] none 0 (.mk 0 false 0 ⟨#[]⟩ ⟨#[]⟩ []) 0 false 0 ⟨#[]⟩ ⟨#[]⟩ [] none 0 rfl rfl (by decide) (by unfold Held; exact ⟨none, 0, rfl⟩) (by unfold Held; exact ⟨none, 0, rfl⟩)
                      rw [sameP_refl] at this
                      exact this
                    have HSM := Lib.hid hsm
                    have HS8 := Lib.hid S8
                    have HBC := Lib.hid bC.size
                    have HIC := Lib.hid IC
                    have l1 := IC.cell1
                    have cz := HZ.out _ IC.bel
                    clear hC0 hec HQ5 bC S8 IC hsm HI
                    go_upto_region 35 with fail
                    clear l1 cz
                    refine wp_region_held_drew (S := fun W => Below C0.heap.size C0 W) (by kernel_rfl) (Below.refl _ _).drew (fun hHeld => ?_)
                    refine wpAnyH_take (i := 0) (v := (.bool false)) rfl (by kernel_rfl) (by kernel_rfl) (by kernel_rfl) (fun _ _ _ h => h) (Or.inl ⟨by rfl, fun W _ => by go_simp⟩) hHeld ?_
                    try simp only [Act.put, List.getElem_toArray, List.getElem_cons_succ, List.getElem_cons_zero, List.setIfInBounds_toArray, List.set_cons_zero, List.set_cons_succ]
                    refine wpAnyH_take (i := 1) (v := (.bool false)) rfl (by kernel_rfl) (by kernel_rfl) (by kernel_rfl) (fun _ _ _ h => h) (Or.inl ⟨by rfl, fun W _ => by go_simp⟩) hHeld ?_
                    try simp only [Act.put, List.getElem_toArray, List.getElem_cons_succ, List.getElem_cons_zero, List.setIfInBounds_toArray, List.set_cons_zero, List.set_cons_succ]
                    refine wpAnyH_take (i := 2) (v := (.bool false)) rfl (by kernel_rfl) (by kernel_rfl) (by kernel_rfl) (fun _ _ _ h => h) (Or.inl ⟨by rfl, fun W _ => by go_simp⟩) hHeld ?_
                    try simp only [Act.put, List.getElem_toArray, List.getElem_cons_succ, List.getElem_cons_zero, List.setIfInBounds_toArray, List.set_cons_zero, List.set_cons_succ]
                    refine wpAnyH_take (i := 3) (v := (.bool false)) rfl (by kernel_rfl) (by kernel_rfl) (by kernel_rfl) (fun _ _ _ h => h) (Or.inl ⟨by rfl, fun W _ => by go_simp⟩) hHeld ?_
                    try simp only [Act.put, List.getElem_toArray, List.getElem_cons_succ, List.getElem_cons_zero, List.setIfInBounds_toArray, List.set_cons_zero, List.set_cons_succ]
                    refine wpAnyH_take (i := 4) (v := (.bool false)) rfl (by kernel_rfl) (by kernel_rfl) (by kernel_rfl) (fun _ _ _ h => h) (Or.inl ⟨by rfl, fun W _ => by go_simp⟩) hHeld ?_
                    try simp only [Act.put, List.getElem_toArray, List.getElem_cons_succ, List.getElem_cons_zero, List.setIfInBounds_toArray, List.set_cons_zero, List.set_cons_succ]
                    refine wpAnyH_take (i := 5) (v := (.bool false)) rfl (by kernel_rfl) (by kernel_rfl) (by kernel_rfl) (fun _ _ _ h => h) (Or.inl ⟨by rfl, fun W _ => by go_simp⟩) hHeld ?_
                    try simp only [Act.put, List.getElem_toArray, List.getElem_cons_succ, List.getElem_cons_zero, List.setIfInBounds_toArray, List.set_cons_zero, List.set_cons_succ]
                    refine wpAnyH_take (i := 6) (v := undef) rfl (by kernel_rfl) (by kernel_rfl) (by kernel_rfl) (fun _ _ _ h => h) (Or.inr ⟨by rfl, rfl⟩) hHeld ?_
                    try simp only [Act.put, List.getElem_toArray, List.getElem_cons_succ, List.getElem_cons_zero, List.setIfInBounds_toArray, List.set_cons_zero, List.set_cons_succ]
                    refine wpAnyH_take (i := 7) (v := undef) rfl (by kernel_rfl) (by kernel_rfl) (by kernel_rfl) (fun _ _ _ h => h) (Or.inr ⟨by rfl, rfl⟩) hHeld ?_
                    try simp only [Act.put, List.getElem_toArray, List.getElem_cons_succ, List.getElem_cons_zero, List.setIfInBounds_toArray, List.set_cons_zero, List.set_cons_succ]
                    refine wpAnyH_take (i := 8) (v := undef) rfl (by kernel_rfl) (by kernel_rfl) (by kernel_rfl) (fun _ _ _ h => h) (Or.inr ⟨by rfl, rfl⟩) hHeld ?_
                    try simp only [Act.put, List.getElem_toArray, List.getElem_cons_succ, List.getElem_cons_zero, List.setIfInBounds_toArray, List.set_cons_zero, List.set_cons_succ]
                    refine wpAnyH_take (i := 9) (v := undef) rfl (by kernel_rfl) (by kernel_rfl) (by kernel_rfl) (fun _ _ _ h => h) (Or.inr ⟨by rfl, rfl⟩) hHeld ?_
                    try simp only [Act.put, List.getElem_toArray, List.getElem_cons_succ, List.getElem_cons_zero, List.setIfInBounds_toArray, List.set_cons_zero, List.set_cons_succ]
                    refine wpAnyH_take (i := 10) (v := undef) rfl (by kernel_rfl) (by kernel_rfl) (by kernel_rfl) (fun _ _ _ h => h) (Or.inr ⟨by rfl, rfl⟩) hHeld ?_
                    try simp only [Act.put, List.getElem_toArray, List.getElem_cons_succ, List.getElem_cons_zero, List.setIfInBounds_toArray, List.set_cons_zero, List.set_cons_succ]
                    refine wpAnyH_take (i := 11) (v := undef) rfl (by kernel_rfl) (by kernel_rfl) (by kernel_rfl) (fun _ _ _ h => h) (Or.inr ⟨by rfl, rfl⟩) hHeld ?_
                    try simp only [Act.put, List.getElem_toArray, List.getElem_cons_succ, List.getElem_cons_zero, List.setIfInBounds_toArray, List.set_cons_zero, List.set_cons_succ]
                    refine wpAnyH_take (i := 12) (v := undef) rfl (by kernel_rfl) (by kernel_rfl) (by kernel_rfl) (fun _ _ _ h => h) (Or.inr ⟨by rfl, rfl⟩) hHeld ?_
                    try simp only [Act.put, List.getElem_toArray, List.getElem_cons_succ, List.getElem_cons_zero, List.setIfInBounds_toArray, List.set_cons_zero, List.set_cons_succ]
                    refine wpAnyH_take (i := 13) (v := undef) rfl (by kernel_rfl) (by kernel_rfl) (by kernel_rfl) (fun _ _ _ h => h) (Or.inr ⟨by rfl, rfl⟩) hHeld ?_
                    try simp only [Act.put, List.getElem_toArray, List.getElem_cons_succ, List.getElem_cons_zero, List.setIfInBounds_toArray, List.set_cons_zero, List.set_cons_succ]
                    refine wpAnyH_take (i := 14) (v := undef) rfl (by kernel_rfl) (by kernel_rfl) (by kernel_rfl) (fun _ _ _ h => h) (Or.inr ⟨by rfl, rfl⟩) hHeld ?_
                    try simp only [Act.put, List.getElem_toArray, List.getElem_cons_succ, List.getElem_cons_zero, List.setIfInBounds_toArray, List.set_cons_zero, List.set_cons_succ]
                    refine wpAnyH_ready (rs := [15]) (by kernel_rfl) (by simp) ?_
                    refine AllReadyH.cons rfl (fun K hK => ?_) AllReadyH.nil
                    rw [if_neg (by exact Bool.eq_false_iff.1 rfl)]
                    refine hK.out _ _ hHeld (fun hHeld2 => ?_)
                    clear hK K hHeld
                    have hHeld := hHeld2
                    clear hHeld2
                    try simp only [Act.put, List.getElem_toArray, List.getElem_cons_succ, List.getElem_cons_zero, List.setIfInBounds_toArray, List.set_cons_zero, List.set_cons_succ]
                    refine wpAnyH_take (i := 16) (v := undef) rfl (by kernel_rfl) (by kernel_rfl) (by kernel_rfl) (fun _ _ _ h => h) (Or.inr ⟨by rfl, rfl⟩) hHeld ?_
                    try simp only [Act.put, List.getElem_toArray, List.getElem_cons_succ, List.getElem_cons_zero, List.setIfInBounds_toArray, List.set_cons_zero, List.set_cons_succ]
                    refine wpAnyH_take (i := 17) (v := (.bool false)) rfl (by kernel_rfl) (by kernel_rfl) (by kernel_rfl) (fun _ _ _ h => h) (Or.inl ⟨by rfl, fun W _ => by go_simp⟩) hHeld ?_
                    try simp only [Act.put, List.getElem_toArray, List.getElem_cons_succ, List.getElem_cons_zero, List.setIfInBounds_toArray, List.set_cons_zero, List.set_cons_succ]
                    refine wpAnyH_take (i := 18) (v := (.bool false)) rfl (by kernel_rfl) (by kernel_rfl) (by kernel_rfl) (fun _ _ _ h => h) (Or.inl ⟨by rfl, fun W _ => by go_simp⟩) hHeld ?_
                    try simp only [Act.put, List.getElem_toArray, List.getElem_cons_succ, List.getElem_cons_zero, List.setIfInBounds_toArray, List.set_cons_zero, List.set_cons_succ]
                    refine wpAnyH_take (i := 19) (v := (.bool false)) rfl (by kernel_rfl) (by kernel_rfl) (by kernel_rfl) (fun _ _ _ h => h) (Or.inl ⟨by rfl, fun W _ => by go_simp⟩) hHeld ?_
                    try simp only [Act.put, List.getElem_toArray, List.getElem_cons_succ, List.getElem_cons_zero, List.setIfInBounds_toArray, List.set_cons_zero, List.set_cons_succ]
                    refine wpAnyH_take (i := 20) (v := (.bool false)) rfl (by kernel_rfl) (by kernel_rfl) (by kernel_rfl) (fun _ _ _ h => h) (Or.inl ⟨by rfl, fun W _ => by go_simp⟩) hHeld ?_
                    try simp only [Act.put, List.getElem_toArray, List.getElem_cons_succ, List.getElem_cons_zero, List.setIfInBounds_toArray, List.set_cons_zero, List.set_cons_succ]
                    refine wpAnyH_take (i := 21) (v := (.bool true)) rfl (by kernel_rfl) (by kernel_rfl) (by kernel_rfl) (fun _ _ _ h => h) (Or.inl ⟨by rfl, fun W _ => by go_simp⟩) hHeld ?_
                    try simp only [Act.put, List.getElem_toArray, List.getElem_cons_succ, List.getElem_cons_zero, List.setIfInBounds_toArray, List.set_cons_zero, List.set_cons_succ]
                    refine wpAnyH_take (i := 22) (v := (.bool true)) rfl (by kernel_rfl) (by kernel_rfl) (by kernel_rfl) (fun _ _ _ h => h) (Or.inl ⟨by rfl, fun W _ => by go_simp⟩) hHeld ?_
                    try simp only [Act.put, List.getElem_toArray, List.getElem_cons_succ, List.getElem_cons_zero, List.setIfInBounds_toArray, List.set_cons_zero, List.set_cons_succ]
                    refine wpAnyH_take (i := 23) rfl (by kernel_rfl) (by kernel_rfl) (by kernel_rfl) (fun _ _ _ h => h) (yields6 (by rfl) (.tmp 13) rfl ec rfl (fun _ h => HS8.out.below h)) hHeld ?_
                    try simp only [Act.put, List.getElem_toArray, List.getElem_cons_succ, List.getElem_cons_zero, List.setIfInBounds_toArray, List.set_cons_zero, List.set_cons_succ]
                    refine wpAnyH_take (i := 24) (v := (.agg #[.int .i64 0, .bool false, .int .i64 0, .string ⟨#[]⟩, .string ⟨#[]⟩, .slice none 0 0])) rfl (by kernel_rfl) (by kernel_rfl) (by kernel_rfl) (fun _ _ _ h => h) (Or.inl ⟨by rfl, fun W _ => by go_simp⟩) hHeld ?_
                    try simp only [Act.put, List.getElem_toArray, List.getElem_cons_succ, List.getElem_cons_zero, List.setIfInBounds_toArray, List.set_cons_zero, List.set_cons_succ]
                    refine wpAnyH_ready (rs := [25]) (by kernel_rfl) (by simp) ?_
                    refine AllReadyH.cons rfl (fun K hK => ?_) AllReadyH.nil
                    rw [if_pos (by rfl)]
                    go_simp
                    refine (HSM.out _ hHeld).mono ?_
                    rintro e w7 ⟨rfl, hb7⟩
                    refine hK.out _ _ (below_any hHeld hb7 hHeld.size) (fun hHeld2 => ?_)
                    clear hK K hb7 hHeld
                    have hHeld := hHeld2
                    clear hHeld2
                    try simp only [Act.put, List.getElem_toArray, List.getElem_cons_succ, List.getElem_cons_zero, List.setIfInBounds_toArray, List.set_cons_zero, List.set_cons_succ]
                    refine wpAnyH_take (i := 26) (v := (.bool false)) rfl (by kernel_rfl) (by kernel_rfl) (by kernel_rfl) (fun _ _ _ h => h) (Or.inl ⟨by rfl, fun W _ => by go_simp⟩) hHeld ?_
                    try simp only [Act.put, List.getElem_toArray, List.getElem_cons_succ, List.getElem_cons_zero, List.setIfInBounds_toArray, List.set_cons_zero, List.set_cons_succ]
                    refine wpAnyH_take (i := 27) (v := (.bool false)) rfl (by kernel_rfl) (by kernel_rfl) (by kernel_rfl) (fun _ _ _ h => h) (Or.inl ⟨by rfl, fun W _ => by go_simp⟩) hHeld ?_
                    try simp only [Act.put, List.getElem_toArray, List.getElem_cons_succ, List.getElem_cons_zero, List.setIfInBounds_toArray, List.set_cons_zero, List.set_cons_succ]
                    refine wpAnyH_take (i := 28) (v := (.bool false)) rfl (by kernel_rfl) (by kernel_rfl) (by kernel_rfl) (fun _ _ _ h => h) (Or.inl ⟨by rfl, fun W _ => by go_simp⟩) hHeld ?_
                    try simp only [Act.put, List.getElem_toArray, List.getElem_cons_succ, List.getElem_cons_zero, List.setIfInBounds_toArray, List.set_cons_zero, List.set_cons_succ]
                    refine wpAnyH_done (by kernel_rfl) ?_ _
                    have S9 := HS8.out.below hHeld
                    have hov : Calls Tryz.prog 9 #[.agg #[.int .i64 0, .bool false, .int .i64 0, .string ⟨#[]⟩, .string ⟨#[]⟩, .slice none 0 0]] w7 (OverPost w7 wr.heap.size wr.heap.size) := overValue 0 false 0 ⟨#[]⟩ ⟨#[]⟩ [] none 0 wr.heap.size wr.heap.size _ (by decide) (by unfold HeldT; exact ⟨none, 0, rfl⟩) (by have := HBC.out; have := hHeld.size; omega)
                    unfold OverPost at hov
                    have hI9 : ∀ W, Wrote wr.heap.size wr.heap.size _ W → DInv w (.slice pL n capL) (.slice (some ⟨bN, offN, none⟩) nN capN) g0 al al (.slice pA al.length capA) F xs W := fun W h => (HIC.out.step hHeld).wrote h HLT.out (fun i f => by have := HFL.out i f; omega) (fun i f => by have := HAL.out i f; omega)
                    have HI9 := Lib.hid hI9
                    clear hI9 hHeld
                    go_wp2_with (first
                      | ((with_reducible refine wpList_load6 (.tmp 13) ec S9 ?_ ?_ ?_ ?_); rfl; rfl; rfl)
                      | (go_at_call 9; (with_reducible refine hov.mono ?_); rintro e w9 ⟨rfl, hw9⟩; have I9 := HI9.out _ hw9; clear hw9))
                    go_roundg (gk - 1)
                    case measure => omega
                    case rel => exact ⟨o + 1, by omega, by go_num, I9⟩
              · go_wp2_with fail
                go_roundg (nN - (i + 1))
                case measure => omega
                case rel => exact ⟨i + 1, by omega, by go_num, I⟩
          · go_wp2_with (go_at_call 5; (with_reducible refine (hwk _ I.bel).mono ?_); rintro e w' ⟨rfl, hb⟩; replace I := I.step hb)
            go_ret
            exact ⟨rfl, I.bel⟩
        · go_wp2_with (go_at_call 5; (with_reducible refine (hwk _ I.bel).mono ?_); rintro e w' ⟨rfl, hb⟩; replace I := I.step hb)
          go_ret
          exact ⟨rfl, I.bel⟩
end Go.Proofs.YtffbcccbhofbpaaGreatDoor
