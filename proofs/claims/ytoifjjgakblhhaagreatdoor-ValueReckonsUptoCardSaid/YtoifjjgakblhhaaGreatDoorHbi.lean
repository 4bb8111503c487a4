/- Texts of one kind, one behind the other: each says ahead of itself what it shows. -/
import Derived.Test.YtoifjjgakblhhaaGreatDoorHat
import Derived.Test.YtoifjjgakblhhaaGreatDoorHbh
/- The law ValueReckons, walked. -/
namespace Go.Proofs.YtoifjjgakblhhaaGreatDoor
open Go.RowKit

theorem six_alloc0 (W : World) : Six (W.alloc (.cells #[.int .i64 0, .bool false, .int .i64 0, .string ⟨#[]⟩, .string ⟨#[]⟩, .slice none 0 0] 28)) W.heap.size 0 false 0 ⟨#[]⟩ ⟨#[]⟩ none 0 0 := six_new _ rfl

theorem KB.over {SB : World → Prop} {w : World} {L ln : Value} {g off1 : Nat} {v : Val} {k : Int} {b : Bool} {m : Int} {t x : ByteArray} {q : List Val} {p : Option Addr} {cp : Nat} {ea : Nat} {pa : Option Addr} {ca : Nat} {off2 : Nat} {u : Val} {k2 : Int} {b2 : Bool} {m2 : Int} {t2 x2 : ByteArray} {q2 : List Val} {p2 : Option Addr} {cp2 : Nat} {eb : Nat} {pb : Option Addr} {cb : Nat} (H : KB SB w L ln g off1 v k b m t x q p cp ea pa ca off2 u k2 b2 m2 t2 x2 q2 p2 cp2 eb pb cb) (B1 : World) (h : SB B1) :
    KB (fun W => Below B1.heap.size B1 W) w L ln g off1 v k b m t x q p cp ea pa ca off2 u k2 b2 m2 t2 x2 q2 p2 cp2 eb pb cb :=
  ⟨fun W k => H.sv W (H.st _ _ h k), fun W k => H.s4 W (H.st _ _ h k), fun W k => H.ha W (H.st _ _ h k), fun W k => H.o1 W (H.st _ _ h k), fun W k => H.s6 W (H.st _ _ h k), fun W k => H.hb W (H.st _ _ h k), fun W k => H.o2 W (H.st _ _ h k), fun W W2 h k => below_any h k h.size⟩

set_option maxRecDepth 200000 in
set_option maxHeartbeats 40000000 in
theorem reckonsSome (l : List Val) (g off cap : Nat) (lang : Int) (w : World) (hG : Gd w) (hT : Tab w) (hl : Holds w g off l) (hl2 : Held w (.slice (some ⟨g, off, none⟩) l.length cap) l) (hn : l.length ≤ 2097152) :
    Calls Tryz.prog 4 #[.agg #[.slice (some ⟨g, off, none⟩) l.length cap, .int .i64 lang]] w fun e w' => e = .returned (.bool true) ∧ Below w.heap.size w w' := by
  have I0 := LInv.start w (.slice (some ⟨g, off, none⟩) l.length cap) (.int .i64 lang)
  obtain ⟨W1, hW1⟩ : ∃ W1, W1 = w.alloc (.cells #[.slice (some ⟨g, off, none⟩) l.length cap, .int .i64 lang] 24) := ⟨_, rfl⟩
  rw [← hW1] at I0
  have hli := lightC l (some ⟨g, off, none⟩) cap W1 (Held.below l hl2 I0.bel) hn
  have hwk := fun W (h : Below w.heap.size w W) => wakesAt W (hG.below h) (hT.below h)
  obtain ⟨n, hln⟩ : ∃ n, n = l.length := ⟨_, rfl⟩
  rw [← hln] at hn I0 hli hW1 ⊢
  have i0 := I0.cell
  have HW1 := Lib.hid hW1
  have HL := Lib.hid hln
  have HH := Lib.hid hl
  have HGG := Lib.hid hG
  have HTT := Lib.hid hT
  clear hl hln hW1 hl2 hG hT
  go_enter Tryz.func4, Tryz.ntmps4
  go_wp2_with (first
    | (go_at_call 10; rw [← HW1.out]; (with_reducible refine hli.mono ?_); rintro e w' ⟨r, rfl, hb⟩; replace I0 := I0.step hb; have i0 := I0.cell; clear hb; cases r)
    | (go_at_call 11; (with_reducible refine (hwk _ I0.bel).mono ?_); rintro e w' ⟨rfl, hb⟩; replace I0 := I0.step hb; clear hb))
  · go_ret
    exact ⟨rfl, I0.bel⟩
  go_loopg [3] (n + 1) (fun gg s3 wr => ∃ j : Nat, j + gg = n + 1 ∧ j ≤ n ∧ s3 = .int .i64 ((j : Int) + 1) ∧ LInv w (.slice (some ⟨g, off, none⟩) n cap) (.int .i64 lang) wr)
  case atStart => exact ⟨0, by omega, by omega, rfl, I0⟩
  case round =>
    clear I0 i0 hli
    obtain ⟨j, hjg, hjn, rfl, I⟩ := hrel
    have hp := I.cell
    by_cases hlt : (j : Int) + 1 < n
    · by_cases h20 : (j : Int) + 1 < 10
      · have hj1 : j < l.length := by have := HL.out; omega
        have hj2 : j + 1 < l.length := by have := HL.out; omega
        obtain ⟨k, b, m, t, x, q, p, cp, o10⟩ := (Holds.at_ l off HH.out j hj1).opens
        obtain ⟨k2, b2, m2, t2, x2, q2, p2, cp2, o20⟩ := (Holds.at_ l off HH.out (j + 1) hj2).opens
        have HO1 := Lib.hid o10
        have HO2 := Lib.hid o20
        clear o10 o20
        go_wp2_with fail
        go_loopg [4] 7 (fun gg s4 wr2 => ∃ o : Nat, o + gg = 23 ∧ 16 ≤ o ∧ s4 = .int .i64 o ∧ LInv w (.slice (some ⟨g, off, none⟩) n cap) (.int .i64 lang) wr2)
        case atStart => exact ⟨16, by omega, by omega, rfl, I⟩
        case round =>
          clear I hp
          obtain ⟨o, hog, ho, rfl, I⟩ := hrel
          by_cases hlt2 : (o : Int) ≤ 22
          · skip
            have hp := I.cell
            have d := HO1.out.below I.bel
            have d0 := d.c0
            have d1 := d.c1
            have d2 := d.c2
            have d3 := d.c3
            have d4 := d.c4
            have d5 := d.c5
            have hcp := rcopyAt k b m t x q p cp wr d.hf d.hl
            unfold RValPost at hcp
            clear d
            have HI := Lib.hid I
            clear I
            go_upto_region 10 with (first
              | ((with_reducible refine wpList_loadMid6 (.tmp 35) g (off + j * 6) k b m t x (.slice p q.length cp) d0 d1 d2 d3 d4 d5 ?_ ?_ ?_ ?_); rfl; rfl; rfl)
              | (go_at_call 12; (with_reducible refine hcp.mono ?_); rintro e w3 ⟨pa, ca, rfl, hq3, hb3⟩; have HQ3 := Lib.hid (And.intro hq3 hb3); clear hq3 hb3 hcp d0 d1 d2 d3 d4 d5))
            obtain ⟨A0, hA0⟩ : ∃ A0, A0 = w3.alloc (.cells #[.int .i64 k, .bool b, .int .i64 m, .string t, .string x, .slice pa q.length ca] 28) := ⟨_, rfl⟩
            obtain ⟨ea, hea⟩ : ∃ ea, ea = w3.heap.size := ⟨_, rfl⟩
            rw [← hA0, ← hea]
            have ba0 : Below wr.heap.size wr A0 := by rw [hA0]; exact HQ3.out.2.alloc HQ3.out.2.size _
            have S4 : Six A0 ea k b m t x pa q.length ca := by rw [hA0, hea]; exact six_new _ rfl
            have ha : Held A0 (.slice pa q.length ca) q := by rw [hA0]; exact Held.below q HQ3.out.1.held (below1 _ _)
            have I1 := HI.out.step ba0
            have HA0 := mkA (p := p) (cp := cp) (v := l[j]) (g := g) (off1 := off + j * 6) I1 S4 ha (HO1.out.below I1.bel)
            obtain ⟨SA, hSA⟩ : ∃ SA : World → Prop, SA = fun W => Below A0.heap.size A0 W := ⟨_, rfl⟩
            rw [← hSA] at HA0
            have JA : SA A0 := by rw [hSA]; exact Below.refl _ _
            have HA := Lib.hid HA0
            clear HA0 hSA hA0 hea HQ3 S4 ha hp
            have hp := I1.cell
            have d := HO2.out.below I1.bel
            have d0 := d.c0
            have d1 := d.c1
            have d2 := d.c2
            have d3 := d.c3
            have d4 := d.c4
            have d5 := d.c5
            have hcp := rcopyAt k2 b2 m2 t2 x2 q2 p2 cp2 A0 d.hf d.hl
            unfold RValPost at hcp
            have HI1 := Lib.hid I1
            clear d I1 ba0
            go_upto_region 11 with (first
              | ((with_reducible refine wpList_loadMid6 (.tmp 41) g (off + (j + 1) * 6) k2 b2 m2 t2 x2 (.slice p2 q2.length cp2) d0 d1 d2 d3 d4 d5 ?_ ?_ ?_ ?_); rfl; rfl; rfl)
              | (go_at_call 12; (with_reducible refine hcp.mono ?_); rintro e w4 ⟨pb, cb, rfl, hq4, hb4⟩; have HQ4 := Lib.hid (And.intro hq4 hb4); clear hq4 hb4 hcp d0 d1 d2 d3 d4 d5))
            obtain ⟨B0, hB0⟩ : ∃ B0, B0 = w4.alloc (.cells #[.int .i64 k2, .bool b2, .int .i64 m2, .string t2, .string x2, .slice pb q2.length cb] 28) := ⟨_, rfl⟩
            obtain ⟨eb, heb⟩ : ∃ eb, eb = w4.heap.size := ⟨_, rfl⟩
            rw [← hB0, ← heb]
            have bb0 : Below A0.heap.size A0 B0 := by rw [hB0]; exact HQ4.out.2.alloc HQ4.out.2.size _
            have S6 : Six B0 eb k2 b2 m2 t2 x2 pb q2.length cb := by rw [hB0, heb]; exact six_new _ rfl
            have I2 := HI1.out.step bb0
            have HB0 := mkB HA.out (HA.out.st _ _ JA bb0) S6 (by rw [hB0]; exact Held.below q2 HQ4.out.1.held (below1 _ _)) (HO2.out.below I2.bel)
            obtain ⟨SB, hSB⟩ : ∃ SB : World → Prop, SB = fun W => Below B0.heap.size B0 W := ⟨_, rfl⟩
            rw [← hSB] at HB0
            have J : SB B0 := by rw [hSB]; exact Below.refl _ _
            have HB := Lib.hid HB0
            have S4 := HB.out.s4 _ J
            have hp := I2.cell
            have hp1 := I2.cell1
            have HSB := Lib.hid hSB
            obtain ⟨k9, n9, t9, q9, e9, hq9, hx, hy⟩ := arithBoth lang o k b m t x q k2 b2 m2 t2 x2 q2 HO1.out.hf HO2.out.hf (by omega) (by omega)
            have hAR : ∀ W, SB W → Calls Tryz.prog 25 #[.int .i64 lang, .int .i64 o, .agg #[.int .i64 k, .bool b, .int .i64 m, .string t, .string x, .slice pa q.length ca], .agg #[.int .i64 k2, .bool b2, .int .i64 m2, .string t2, .string x2, .slice pb q2.length cb]] W (APost W k9 n9 t9 q9 e9) := fun W h => hx W pa ca pb cb (HGG.out.below (HB.out.sv W h).bel) (HTT.out.below (HB.out.sv W h).bel) (HB.out.ha W h) (HB.out.hb W h)
            have hRF : ∀ W, SB W → Calls Tryz.prog 26 #[.int .i64 lang, .int .i64 o, .agg #[.int .i64 k, .bool b, .int .i64 m, .string t, .string x, .slice p q.length cp], .agg #[.int .i64 k2, .bool b2, .int .i64 m2, .string t2, .string x2, .slice p2 q2.length cp2]] W (APost W k9 n9 t9 q9 e9) := fun W h => hy W p cp p2 cp2 (HB.out.o1 W h).hl (HB.out.o2 W h).hl
            unfold APost at hAR hRF
            have HAR := Lib.hid hAR
            have HRF := Lib.hid hRF
            clear HB0 hSB hB0 heb HQ4 hAR hRF hx hy I2 bb0 JA
            go_upto_region 12 with (first
              | ((with_reducible refine wpList_load6 (.tmp 5) ea S4 ?_ ?_ ?_ ?_); rfl; rfl; rfl)
              | ((with_reducible refine wpList_load6 (.tmp 6) eb S6 ?_ ?_ ?_ ?_); rfl; rfl; rfl)
              | (go_at_call 25; (with_reducible refine (HAR.out _ J).mono ?_); rintro e w5 ⟨p5, c5, rfl, hq5, hb5⟩; have HQ5 := Lib.hid (And.intro hq5 hb5); clear hq5 hb5 hp hp1))
            obtain ⟨C0, hC0⟩ : ∃ C0, C0 = w5.alloc (.cells #[.int .i64 k9, .bool false, .int .i64 n9, .string t9, .string ⟨#[]⟩, .slice p5 q9.length c5] 28) := ⟨_, rfl⟩
            obtain ⟨ec, hec⟩ : ∃ ec, ec = w5.heap.size := ⟨_, rfl⟩
            rw [← hC0, ← hec]
            have bc0 : Below B0.heap.size B0 C0 := by rw [hC0]; exact HQ5.out.2.alloc HQ5.out.2.size _
            have S7 : Six C0 ec k9 false n9 t9 ⟨#[]⟩ p5 q9.length c5 := by rw [hC0, hec]; exact six_new _ rfl
            have hq5 : HeldT C0 B0.heap.size w5.heap.size (.slice p5 q9.length c5) q9 := HeldT.stays (fun i _ h => by rw [hC0]; exact Below.heap_alloc _ _ _ h) q9 HQ5.out.1
            have hs5 : w5.heap.size ≤ C0.heap.size := by rw [hC0]; simp
            have HC5 := Lib.hid (And.intro S7 (And.intro hq5 (And.intro hs5 bc0)))
            have HCC := Lib.hid (KB.over HB.out C0 (HB.out.st _ _ J bc0))
            obtain ⟨SC, hSC⟩ : ∃ SC : World → Prop, SC = fun W => Below C0.heap.size C0 W := ⟨_, rfl⟩
            have hCB : ∀ W, SC W → SB W := fun W h => by rw [hSC] at h; exact HB.out.st _ _ (HB.out.st _ _ J bc0) h
            rw [← hSC] at HCC
            have JC : SC C0.drew := by rw [hSC]; exact (Below.refl _ _).drew
            have HSC := Lib.hid hSC
            have HCB := Lib.hid hCB
            clear hSC hCB hC0 hec HQ5 S7 hq5 hs5 bc0 S4 S6 J
            have HRo1 : Hid (∀ W, SC W → W.rangeAt g (off + j * 6) [.int .i64 k, .bool b, .int .i64 m, .string t, .string x, .slice p q.length cp]) := Lib.hid fun W h => (HCC.out.o1 W h).range
            have HRo2 : Hid (∀ W, SC W → W.rangeAt g (off + (j + 1) * 6) [.int .i64 k2, .bool b2, .int .i64 m2, .string t2, .string x2, .slice p2 q2.length cp2]) := Lib.hid fun W h => (HCC.out.o2 W h).range
            have HRF2 : Hid (∀ W, SC W → _) := Lib.hid fun W h => HRF.out W (HCB.out W h)
            refine wp_region_held_drew (S := SC) (by kernel_rfl) JC (fun hHeld => ?_)
            clear JC
            refine wpAnyH_take (i := 0) (v := (.pointer (some ⟨w.heap.size, 1, none⟩))) rfl (by kernel_rfl) (by kernel_rfl) (by kernel_rfl) (fun _ _ _ h => h) (Or.inl ⟨by rfl, fun W _ => by go_simp⟩) hHeld ?_
            try simp only [Act.put, List.getElem_toArray, List.getElem_cons_succ, List.getElem_cons_zero, List.setIfInBounds_toArray, List.set_cons_zero, List.set_cons_succ]
            refine wpAnyH_take (i := 1) (v := (.int .i64 lang)) rfl (by kernel_rfl) (by kernel_rfl) (by kernel_rfl) (fun _ _ _ h => h) (Or.inl ⟨by rfl, fun W h => by have c := (HCC.out.sv _ h).cell1; go_simp⟩) hHeld ?_
            try simp only [Act.put, List.getElem_toArray, List.getElem_cons_succ, List.getElem_cons_zero, List.setIfInBounds_toArray, List.set_cons_zero, List.set_cons_succ]
            refine wpAnyH_take (i := 2) (v := (.int .i64 o)) rfl (by kernel_rfl) (by kernel_rfl) (by kernel_rfl) (fun _ _ _ h => h) (Or.inl ⟨by rfl, fun W _ => by go_simp⟩) hHeld ?_
            try simp only [Act.put, List.getElem_toArray, List.getElem_cons_succ, List.getElem_cons_zero, List.setIfInBounds_toArray, List.set_cons_zero, List.set_cons_succ]
            refine wpAnyH_take (i := 3) (v := (.pointer (some ⟨w.heap.size, 0, none⟩))) rfl (by kernel_rfl) (by kernel_rfl) (by kernel_rfl) (fun _ _ _ h => h) (Or.inl ⟨by rfl, fun W _ => by go_simp⟩) hHeld ?_
            try simp only [Act.put, List.getElem_toArray, List.getElem_cons_succ, List.getElem_cons_zero, List.setIfInBounds_toArray, List.set_cons_zero, List.set_cons_succ]
            refine wpAnyH_take (i := 4) (v := (.slice (some ⟨g, off, none⟩) n cap)) rfl (by kernel_rfl) (by kernel_rfl) (by kernel_rfl) (fun _ _ _ h => h) (Or.inl ⟨by rfl, fun W h => by have c := (HCC.out.sv _ h).cell; go_simp⟩) hHeld ?_
            try simp only [Act.put, List.getElem_toArray, List.getElem_cons_succ, List.getElem_cons_zero, List.setIfInBounds_toArray, List.set_cons_zero, List.set_cons_succ]
            refine wpAnyH_take (i := 5) (v := (.int .i64 ((j : Int) + 1))) rfl (by kernel_rfl) (by kernel_rfl) (by kernel_rfl) (fun _ _ _ h => h) (Or.inl ⟨by rfl, fun W _ => by go_simp⟩) hHeld ?_
            try simp only [Act.put, List.getElem_toArray, List.getElem_cons_succ, List.getElem_cons_zero, List.setIfInBounds_toArray, List.set_cons_zero, List.set_cons_succ]
            refine wpAnyH_take (i := 6) (v := (.int .i64 j)) rfl (by kernel_rfl) (by kernel_rfl) (by kernel_rfl) (fun _ _ _ h => h) (Or.inl ⟨by rfl, fun W _ => by go_simp; rw [IntKind.wrap_i64]; omega⟩) hHeld ?_
            try simp only [Act.put, List.getElem_toArray, List.getElem_cons_succ, List.getElem_cons_zero, List.setIfInBounds_toArray, List.set_cons_zero, List.set_cons_succ]
            refine wpAnyH_take (i := 7) (v := (.pointer (some ⟨g, off + j * 6, none⟩))) rfl (by kernel_rfl) (by kernel_rfl) (by kernel_rfl) (fun _ _ _ h => h) (Or.inl ⟨by rfl, fun W _ => by go_simp; intro h; exfalso; omega⟩) hHeld ?_
            try simp only [Act.put, List.getElem_toArray, List.getElem_cons_succ, List.getElem_cons_zero, List.setIfInBounds_toArray, List.set_cons_zero, List.set_cons_succ]
            refine wpAnyH_take (i := 8) rfl (by kernel_rfl) (by kernel_rfl) (by kernel_rfl) (fun _ _ _ h => h) (yieldsIf_load_mid (by rfl) 28 (.tmp 61) rfl g (off + j * 6) rfl _ _ (fun W h => HRo1.out W h) Tryz.underlying28 rfl info28) hHeld ?_
            try simp only [Act.put, List.getElem_toArray, List.getElem_cons_succ, List.getElem_cons_zero, List.setIfInBounds_toArray, List.set_cons_zero, List.set_cons_succ]
            refine wpAnyH_take (i := 9) (v := (.pointer (some ⟨w.heap.size, 0, none⟩))) rfl (by kernel_rfl) (by kernel_rfl) (by kernel_rfl) (fun _ _ _ h => h) (Or.inl ⟨by rfl, fun W _ => by go_simp⟩) hHeld ?_
            try simp only [Act.put, List.getElem_toArray, List.getElem_cons_succ, List.getElem_cons_zero, List.setIfInBounds_toArray, List.set_cons_zero, List.set_cons_succ]
            refine wpAnyH_take (i := 10) (v := (.slice (some ⟨g, off, none⟩) n cap)) rfl (by kernel_rfl) (by kernel_rfl) (by kernel_rfl) (fun _ _ _ h => h) (Or.inl ⟨by rfl, fun W h => by have c := (HCC.out.sv _ h).cell; go_simp⟩) hHeld ?_
            try simp only [Act.put, List.getElem_toArray, List.getElem_cons_succ, List.getElem_cons_zero, List.setIfInBounds_toArray, List.set_cons_zero, List.set_cons_succ]
            refine wpAnyH_take (i := 11) (v := (.int .i64 ((j : Int) + 1))) rfl (by kernel_rfl) (by kernel_rfl) (by kernel_rfl) (fun _ _ _ h => h) (Or.inl ⟨by rfl, fun W _ => by go_simp⟩) hHeld ?_
            try simp only [Act.put, List.getElem_toArray, List.getElem_cons_succ, List.getElem_cons_zero, List.setIfInBounds_toArray, List.set_cons_zero, List.set_cons_succ]
            refine wpAnyH_take (i := 12) (v := (.pointer (some ⟨g, off + (j + 1) * 6, none⟩))) rfl (by kernel_rfl) (by kernel_rfl) (by kernel_rfl) (fun _ _ _ h => h) (Or.inl ⟨by rfl, fun W _ => by go_simp; intro h; exfalso; omega⟩) hHeld ?_
            try simp only [Act.put, List.getElem_toArray, List.getElem_cons_succ, List.getElem_cons_zero, List.setIfInBounds_toArray, List.set_cons_zero, List.set_cons_succ]
            refine wpAnyH_take (i := 13) rfl (by kernel_rfl) (by kernel_rfl) (by kernel_rfl) (fun _ _ _ h => h) (yieldsIf_load_mid (by rfl) 28 (.tmp 66) rfl g (off + (j + 1) * 6) rfl _ _ (fun W h => HRo2.out W h) Tryz.underlying28 rfl info28) hHeld ?_
            try simp only [Act.put, List.getElem_toArray, List.getElem_cons_succ, List.getElem_cons_zero, List.setIfInBounds_toArray, List.set_cons_zero, List.set_cons_succ]
            have HX : Hid (∀ W, SC W → ∀ W2, Below W.heap.size W W2 → SC W2) := Lib.hid fun W h W2 k => HCC.out.st _ _ h k
            obtain ⟨wd, hwd⟩ : ∃ wd, wd = C0.drew := ⟨_, rfl⟩
            rw [← hwd] at hHeld ⊢
            clear hwd
            refine wpAnyH_ready (rs := [14, 18]) (by kernel_rfl) (by simp) ?_
            refine AllReadyH.cons rfl (fun K hK => ?_) (AllReadyH.cons rfl (fun K hK => ?_) AllReadyH.nil)
            · skip
              rw [if_pos (by rfl)]
              go_simp
              refine (HRF2.out _ hHeld).mono ?_
              rintro e w6 ⟨p6, c6, rfl, hq6, hb6⟩
              have bcd := HX.out _ hHeld w6 hb6
              refine hK.out _ _ (bcd) (fun hHeld2 => ?_)
              clear hK K
              have hHeld := hHeld2
              clear hHeld2
              try simp only [Act.put, List.getElem_toArray, List.getElem_cons_succ, List.getElem_cons_zero, List.setIfInBounds_toArray, List.set_cons_zero, List.set_cons_succ]
              refine wpAnyH_take (i := 15) (v := .tuple #[.agg #[.int .i64 k9, .bool false, .int .i64 n9, .string t9, .string ⟨#[]⟩, .slice p6 q9.length c6], .int .i64 e9]) rfl (by kernel_rfl) (by kernel_rfl) (by kernel_rfl) (fun _ _ _ h => h) (Or.inl ⟨by rfl, fun W _ => by go_simp⟩) hHeld ?_
              try simp only [Act.put, List.getElem_toArray, List.getElem_cons_succ, List.getElem_cons_zero, List.setIfInBounds_toArray, List.set_cons_zero, List.set_cons_succ]
              refine wpAnyH_take (i := 16) (v := .agg #[.int .i64 k9, .bool false, .int .i64 n9, .string t9, .string ⟨#[]⟩, .slice p6 q9.length c6]) rfl (by kernel_rfl) (by kernel_rfl) (by kernel_rfl) (fun _ _ _ h => h) (Or.inl ⟨by rfl, fun W _ => by go_simp⟩) hHeld ?_
              try simp only [Act.put, List.getElem_toArray, List.getElem_cons_succ, List.getElem_cons_zero, List.setIfInBounds_toArray, List.set_cons_zero, List.set_cons_succ]
              refine wpAnyH_take (i := 17) (v := .int .i64 e9) rfl (by kernel_rfl) (by kernel_rfl) (by kernel_rfl) (fun _ _ _ h => h) (Or.inl ⟨by rfl, fun W _ => by go_simp⟩) hHeld ?_
              try simp only [Act.put, List.getElem_toArray, List.getElem_cons_succ, List.getElem_cons_zero, List.setIfInBounds_toArray, List.set_cons_zero, List.set_cons_succ]
              have hc6 := hHeld
              refine wpAnyH_ready (rs := [18]) (by kernel_rfl) (by simp) ?_
              refine AllReadyH.cons rfl (fun K hK => ?_) AllReadyH.nil
              try rw [if_pos (by rfl)]
              go_simp
              refine hK.out _ _ (HX.out _ hHeld _ (below1 _ _)) (fun hHeld2 => ?_)
              clear hK K
              have hHeld := hHeld2
              clear hHeld2
              try simp only [Act.put, List.getElem_toArray, List.getElem_cons_succ, List.getElem_cons_zero, List.setIfInBounds_toArray, List.set_cons_zero, List.set_cons_succ]
              refine wpAnyH_ready (rs := [19]) (by kernel_rfl) (by simp) ?_
              refine AllReadyH.cons rfl (fun K hK => ?_) AllReadyH.nil
              try rw [if_pos (by rfl)]
              refine wp_store6 (k' := k9) (b' := false) (n' := n9) (t' := t9) (x' := ⟨#[]⟩) (p' := p6) (len' := q9.length) (cap' := c6) (.tmp 9) (.tmp 69) rfl (w6.heap.size) (six_alloc0 w6) rfl rfl ?_
              intro w9 on9 S9
              have j9 : SC w9 := HX.out _ hc6 _ (below_only (below1 _ _) on9 (Nat.le_refl _) (below1 _ _).size)
              refine hK.out _ _ (j9) (fun hHeld2 => ?_)
              clear hK K
              have hHeld := hHeld2
              clear hHeld2
              try simp only [Act.put, List.getElem_toArray, List.getElem_cons_succ, List.getElem_cons_zero, List.setIfInBounds_toArray, List.set_cons_zero, List.set_cons_succ]
              refine wpAnyH_ready (rs := [20]) (by kernel_rfl) (by simp) ?_
              refine AllReadyH.cons rfl (fun K hK => ?_) AllReadyH.nil
              try rw [if_pos (by rfl)]
              go_simp
              refine hK.out _ _ (hHeld) (fun hHeld2 => ?_)
              clear hK K
              have hHeld := hHeld2
              clear hHeld2
              try simp only [Act.put, List.getElem_toArray, List.getElem_cons_succ, List.getElem_cons_zero, List.setIfInBounds_toArray, List.set_cons_zero, List.set_cons_succ]
              refine wpAnyH_done (by kernel_rfl) ?_ _
              replace hq6 : HeldT w9 wd.heap.size w6.heap.size (.slice p6 q9.length c6) q9 := HeldT.stays (fun i _ a => (on9.block i (Nat.lt_of_lt_of_le a (below1 _ _).size) (by omega)).trans ((below1 w6 (.cells #[.int .i64 0, .bool false, .int .i64 0, .string ⟨#[]⟩, .string ⟨#[]⟩, .slice none 0 0] 28)).block i a)) q9 hq6
              clear hc6 on9 bcd hb6
              obtain ⟨en, hen⟩ : ∃ en, en = w6.heap.size := ⟨_, rfl⟩
              rw [← hen] at S9 ⊢
              clear hen
              have hcd : Below C0.heap.size C0 w9 := by have h := j9; rw [HSC.out] at h; exact h
              have JB := HCB.out w9 j9
              have S7 := HC5.out.1.below hcd
              have HQ59 : Hid (∀ W, Below w9.heap.size w9 W → HeldT W B0.heap.size w5.heap.size (.slice p5 q9.length c5) q9) := Lib.hid fun W h => HeldT.stays (fun i _ a => (h.block i (by have := hcd.size; have := HC5.out.2.2.1; omega)).trans (hcd.block i (by have := HC5.out.2.2.1; omega))) q9 HC5.out.2.1
              have HSM9 : Hid (∀ W, Below w9.heap.size w9 W → Calls Tryz.prog 18 #[.agg #[.int .i64 k9, .bool false, .int .i64 n9, .string t9, .string ⟨#[]⟩, .slice p5 q9.length c5], .agg #[.int .i64 k9, .bool false, .int .i64 n9, .string t9, .string ⟨#[]⟩, .slice p6 q9.length c6]] W fun e w' => e = .returned (.bool true) ∧ Below W.heap.size W w') := Lib.hid fun W h => by
                have := sameZAll (.mk k9 false n9 t9 ⟨#[]⟩ q9) W k9 false n9 t9 ⟨#[]⟩ q9 p5 c5 (.mk k9 false n9 t9 ⟨#[]⟩ q9) k9 false n9 t9 ⟨#[]⟩ q9 p6 c6 rfl rfl hq9 (HeldT.held q9 (HQ59.out W h)) (Held.below q9 (HeldT.held q9 hq6) h)
                rw [sameP_refl] at this
                exact this
              have HZ9 : Hid (w5.heap.size ≤ w9.heap.size) := Lib.hid (by have := hcd.size; have := HC5.out.2.2.1; omega)
              have HOV : Hid (∀ W W2, SB W → Wrote B0.heap.size w5.heap.size W W2 → SB W2.drew) := Lib.hid fun W W2 h k => by rw [HSB.out] at h ⊢; exact (k.below h (Nat.le_refl _)).drew
              have hne : (e9 != e9) = false := by simp
              clear hHeld j9 hcd hq6
              go_upto_region 15 with (first
                | ((with_reducible refine wpList_load6g (.tmp 7) ec S7 ?_ ?_ ?_ ?_); rfl; rfl; rfl)
                | ((with_reducible refine wpList_load6g (.tmp 9) en S9 ?_ ?_ ?_ ?_); rfl; rfl; rfl)
                | (go_at_call 18; (with_reducible refine (HSM9.out _ (Below.refl _ _)).mono ?_); rintro e w7 ⟨rfl, hb7⟩; have T7 := S7.below hb7; have HW := Lib.hid (And.intro (HQ59.out w7 hb7) (And.intro (Nat.le_trans HZ9.out hb7.size) (HB.out.st _ _ JB hb7))); clear hb7))
              have hov := overValue k9 false n9 t9 ⟨#[]⟩ q9 p5 c5 B0.heap.size w5.heap.size w7 hq9 HW.out.1 HW.out.2.1
              unfold OverPost at hov
              go_upto_region 16 with (first
                | ((with_reducible refine wpList_load6 (.tmp 7) ec T7 ?_ ?_ ?_ ?_); rfl; rfl; rfl)
                | (go_at_call 27; (with_reducible refine hov.mono ?_); rintro e w8 ⟨rfl, hw8⟩; have J8 : SB w8.drew := HOV.out _ _ HW.out.2.2 hw8; clear hw8))
              clear S7 T7 S9 JB hov HSM9 HQ59 HZ9 HOV HW
              have HRo1 : Hid (∀ W, SB W → W.rangeAt g (off + j * 6) [.int .i64 k, .bool b, .int .i64 m, .string t, .string x, .slice p q.length cp]) := Lib.hid fun W h => (HB.out.o1 W h).range
              have HRo2 : Hid (∀ W, SB W → W.rangeAt g (off + (j + 1) * 6) [.int .i64 k2, .bool b2, .int .i64 m2, .string t2, .string x2, .slice p2 q2.length cp2]) := Lib.hid fun W h => (HB.out.o2 W h).range
              have HM1 : Hid (∀ W, SB W → Calls Tryz.prog 18 #[.agg #[.int .i64 k, .bool b, .int .i64 m, .string t, .string x, .slice pa q.length ca], .agg #[.int .i64 k, .bool b, .int .i64 m, .string t, .string x, .slice p q.length cp]] W fun e w' => e = .returned (.bool true) ∧ Below W.heap.size W w') := Lib.hid fun W h => by
                have := sameZAll (.mk k b m t x q) W k b m t x q pa ca (.mk k b m t x q) k b m t x q p cp rfl rfl HO1.out.hf.hn (HB.out.ha W h) (HB.out.o1 W h).hl
                rw [sameP_refl] at this
                exact this
              have HM2 : Hid (∀ W, SB W → Calls Tryz.prog 18 #[.agg #[.int .i64 k2, .bool b2, .int .i64 m2, .string t2, .string x2, .slice pb q2.length cb], .agg #[.int .i64 k2, .bool b2, .int .i64 m2, .string t2, .string x2, .slice p2 q2.length cp2]] W fun e w' => e = .returned (.bool true) ∧ Below W.heap.size W w') := Lib.hid fun W h => by
                have := sameZAll (.mk k2 b2 m2 t2 x2 q2) W k2 b2 m2 t2 x2 q2 pb cb (.mk k2 b2 m2 t2 x2 q2) k2 b2 m2 t2 x2 q2 p2 cp2 rfl rfl HO2.out.hf.hn (HB.out.hb W h) (HB.out.o2 W h).hl
                rw [sameP_refl] at this
                exact this
              refine wp_region_held_drew (S := SB) (by kernel_rfl) J8 (fun hHeld => ?_)
              clear J8
              refine wpAnyH_take (i := 0) rfl (by kernel_rfl) (by kernel_rfl) (by kernel_rfl) (fun _ _ _ h => h) (yields6 (by rfl) (.tmp 5) rfl ea rfl (fun _ h => HB.out.s4 _ h)) hHeld ?_
              try simp only [Act.put, List.getElem_toArray, List.getElem_cons_succ, List.getElem_cons_zero, List.setIfInBounds_toArray, List.set_cons_zero, List.set_cons_succ]
              refine wpAnyH_take (i := 1) (v := (.pointer (some ⟨w.heap.size, 0, none⟩))) rfl (by kernel_rfl) (by kernel_rfl) (by kernel_rfl) (fun _ _ _ h => h) (Or.inl ⟨by rfl, fun W _ => by go_simp⟩) hHeld ?_
              try simp only [Act.put, List.getElem_toArray, List.getElem_cons_succ, List.getElem_cons_zero, List.setIfInBounds_toArray, List.set_cons_zero, List.set_cons_succ]
              refine wpAnyH_take (i := 2) (v := (.slice (some ⟨g, off, none⟩) n cap)) rfl (by kernel_rfl) (by kernel_rfl) (by kernel_rfl) (fun _ _ _ h => h) (Or.inl ⟨by rfl, fun W h => by have c := (HB.out.sv _ h).cell; go_simp⟩) hHeld ?_
              try simp only [Act.put, List.getElem_toArray, List.getElem_cons_succ, List.getElem_cons_zero, List.setIfInBounds_toArray, List.set_cons_zero, List.set_cons_succ]
              refine wpAnyH_take (i := 3) (v := (.int .i64 ((j : Int) + 1))) rfl (by kernel_rfl) (by kernel_rfl) (by kernel_rfl) (fun _ _ _ h => h) (Or.inl ⟨by rfl, fun W _ => by go_simp⟩) hHeld ?_
              try simp only [Act.put, List.getElem_toArray, List.getElem_cons_succ, List.getElem_cons_zero, List.setIfInBounds_toArray, List.set_cons_zero, List.set_cons_succ]
              refine wpAnyH_take (i := 4) (v := (.int .i64 j)) rfl (by kernel_rfl) (by kernel_rfl) (by kernel_rfl) (fun _ _ _ h => h) (Or.inl ⟨by rfl, fun W _ => by go_simp; rw [IntKind.wrap_i64]; omega⟩) hHeld ?_
              try simp only [Act.put, List.getElem_toArray, List.getElem_cons_succ, List.getElem_cons_zero, List.setIfInBounds_toArray, List.set_cons_zero, List.set_cons_succ]
              refine wpAnyH_take (i := 5) (v := (.pointer (some ⟨g, off + j * 6, none⟩))) rfl (by kernel_rfl) (by kernel_rfl) (by kernel_rfl) (fun _ _ _ h => h) (Or.inl ⟨by rfl, fun W _ => by go_simp; intro h; exfalso; omega⟩) hHeld ?_
              try simp only [Act.put, List.getElem_toArray, List.getElem_cons_succ, List.getElem_cons_zero, List.setIfInBounds_toArray, List.set_cons_zero, List.set_cons_succ]
              refine wpAnyH_take (i := 6) rfl (by kernel_rfl) (by kernel_rfl) (by kernel_rfl) (fun _ _ _ h => h) (yieldsIf_load_mid (by rfl) 28 (.tmp 87) rfl g (off + j * 6) rfl _ _ (fun W h => HRo1.out W h) Tryz.underlying28 rfl info28) hHeld ?_
              try simp only [Act.put, List.getElem_toArray, List.getElem_cons_succ, List.getElem_cons_zero, List.setIfInBounds_toArray, List.set_cons_zero, List.set_cons_succ]
              refine wpAnyH_ready (rs := [7]) (by kernel_rfl) (by simp) ?_
              refine AllReadyH.cons rfl (fun K hK => ?_) AllReadyH.nil
              rw [if_pos (by rfl)]
              go_simp
              refine (HM1.out _ hHeld).mono ?_
              rintro e w3 ⟨rfl, hb3⟩
              refine hK.out _ _ (HB.out.st _ _ hHeld hb3) (fun hHeld2 => ?_)
              clear hK K hb3 hHeld
              have hHeld := hHeld2
              clear hHeld2
              try simp only [Act.put, List.getElem_toArray, List.getElem_cons_succ, List.getElem_cons_zero, List.setIfInBounds_toArray, List.set_cons_zero, List.set_cons_succ]
              refine wpAnyH_take (i := 8) (v := (.bool false)) rfl (by kernel_rfl) (by kernel_rfl) (by kernel_rfl) (fun _ _ _ h => h) (Or.inl ⟨by rfl, fun W _ => by go_simp⟩) hHeld ?_
              try simp only [Act.put, List.getElem_toArray, List.getElem_cons_succ, List.getElem_cons_zero, List.setIfInBounds_toArray, List.set_cons_zero, List.set_cons_succ]
              refine wpAnyH_take (i := 9) (v := (.bool false)) rfl (by kernel_rfl) (by kernel_rfl) (by kernel_rfl) (fun _ _ _ h => h) (Or.inl ⟨by rfl, fun W _ => by go_simp⟩) hHeld ?_
              try simp only [Act.put, List.getElem_toArray, List.getElem_cons_succ, List.getElem_cons_zero, List.setIfInBounds_toArray, List.set_cons_zero, List.set_cons_succ]
              refine wpAnyH_take (i := 10) rfl (by kernel_rfl) (by kernel_rfl) (by kernel_rfl) (fun _ _ _ h => h) (yields6 (by rfl) (.tmp 6) rfl eb rfl (fun _ h => HB.out.s6 _ h)) hHeld ?_
              try simp only [Act.put, List.getElem_toArray, List.getElem_cons_succ, List.getElem_cons_zero, List.setIfInBounds_toArray, List.set_cons_zero, List.set_cons_succ]
              refine wpAnyH_take (i := 11) (v := (.pointer (some ⟨w.heap.size, 0, none⟩))) rfl (by kernel_rfl) (by kernel_rfl) (by kernel_rfl) (fun _ _ _ h => h) (Or.inl ⟨by rfl, fun W _ => by go_simp⟩) hHeld ?_
              try simp only [Act.put, List.getElem_toArray, List.getElem_cons_succ, List.getElem_cons_zero, List.setIfInBounds_toArray, List.set_cons_zero, List.set_cons_succ]
              refine wpAnyH_take (i := 12) (v := (.slice (some ⟨g, off, none⟩) n cap)) rfl (by kernel_rfl) (by kernel_rfl) (by kernel_rfl) (fun _ _ _ h => h) (Or.inl ⟨by rfl, fun W h => by have c := (HB.out.sv _ h).cell; go_simp⟩) hHeld ?_
              try simp only [Act.put, List.getElem_toArray, List.getElem_cons_succ, List.getElem_cons_zero, List.setIfInBounds_toArray, List.set_cons_zero, List.set_cons_succ]
              refine wpAnyH_take (i := 13) (v := (.int .i64 ((j : Int) + 1))) rfl (by kernel_rfl) (by kernel_rfl) (by kernel_rfl) (fun _ _ _ h => h) (Or.inl ⟨by rfl, fun W _ => by go_simp⟩) hHeld ?_
              try simp only [Act.put, List.getElem_toArray, List.getElem_cons_succ, List.getElem_cons_zero, List.setIfInBounds_toArray, List.set_cons_zero, List.set_cons_succ]
              refine wpAnyH_take (i := 14) (v := (.pointer (some ⟨g, off + (j + 1) * 6, none⟩))) rfl (by kernel_rfl) (by kernel_rfl) (by kernel_rfl) (fun _ _ _ h => h) (Or.inl ⟨by rfl, fun W _ => by go_simp; intro h; exfalso; omega⟩) hHeld ?_
              try simp only [Act.put, List.getElem_toArray, List.getElem_cons_succ, List.getElem_cons_zero, List.setIfInBounds_toArray, List.set_cons_zero, List.set_cons_succ]
              refine wpAnyH_take (i := 15) rfl (by kernel_rfl) (by kernel_rfl) (by kernel_rfl) (fun _ _ _ h => h) (yieldsIf_load_mid (by rfl) 28 (.tmp 96) rfl g (off + (j + 1) * 6) rfl _ _ (fun W h => HRo2.out W h) Tryz.underlying28 rfl info28) hHeld ?_
              try simp only [Act.put, List.getElem_toArray, List.getElem_cons_succ, List.getElem_cons_zero, List.setIfInBounds_toArray, List.set_cons_zero, List.set_cons_succ]
              refine wpAnyH_ready (rs := [16]) (by kernel_rfl) (by simp) ?_
              refine AllReadyH.cons rfl (fun K hK => ?_) AllReadyH.nil
              rw [if_pos (by rfl)]
              go_simp
              refine (HM2.out _ hHeld).mono ?_
              rintro e w3 ⟨rfl, hb3⟩
              refine hK.out _ _ (HB.out.st _ _ hHeld hb3) (fun hHeld2 => ?_)
              clear hK K hb3 hHeld
              have hHeld := hHeld2
              clear hHeld2
              try simp only [Act.put, List.getElem_toArray, List.getElem_cons_succ, List.getElem_cons_zero, List.setIfInBounds_toArray, List.set_cons_zero, List.set_cons_succ]
              refine wpAnyH_take (i := 17) (v := (.bool false)) rfl (by kernel_rfl) (by kernel_rfl) (by kernel_rfl) (fun _ _ _ h => h) (Or.inl ⟨by rfl, fun W _ => by go_simp⟩) hHeld ?_
              try simp only [Act.put, List.getElem_toArray, List.getElem_cons_succ, List.getElem_cons_zero, List.setIfInBounds_toArray, List.set_cons_zero, List.set_cons_succ]
              refine wpAnyH_take (i := 18) (v := (.bool false)) rfl (by kernel_rfl) (by kernel_rfl) (by kernel_rfl) (fun _ _ _ h => h) (Or.inl ⟨by rfl, fun W _ => by go_simp⟩) hHeld ?_
              try simp only [Act.put, List.getElem_toArray, List.getElem_cons_succ, List.getElem_cons_zero, List.setIfInBounds_toArray, List.set_cons_zero, List.set_cons_succ]
              refine wpAnyH_done (by kernel_rfl) ?_ _
              have I9 := HB.out.sv _ hHeld
              clear hHeld
              go_wp2_with fail
              go_roundg (gk - 1)
              case measure => omega
              case rel => exact ⟨o + 1, by omega, by omega, by go_num, I9⟩
            · skip
              have hcd0 := hHeld
              try rw [if_pos (by rfl)]
              go_simp
              refine hK.out _ _ (HX.out _ hHeld _ (below1 _ _)) (fun hHeld2 => ?_)
              clear hK K
              have hHeld := hHeld2
              clear hHeld2
              try simp only [Act.put, List.getElem_toArray, List.getElem_cons_succ, List.getElem_cons_zero, List.setIfInBounds_toArray, List.set_cons_zero, List.set_cons_succ]
              refine wpAnyH_ready (rs := [14]) (by kernel_rfl) (by simp) ?_
              refine AllReadyH.cons rfl (fun K hK => ?_) AllReadyH.nil
              rw [if_pos (by rfl)]
              go_simp
              refine (HRF2.out _ hHeld).mono ?_
              rintro e w6 ⟨p6, c6, rfl, hq6, hb6⟩
              have bcd := HX.out _ hHeld w6 hb6
              refine hK.out _ _ (bcd) (fun hHeld2 => ?_)
              clear hK K
              have hHeld := hHeld2
              clear hHeld2
              try simp only [Act.put, List.getElem_toArray, List.getElem_cons_succ, List.getElem_cons_zero, List.setIfInBounds_toArray, List.set_cons_zero, List.set_cons_succ]
              refine wpAnyH_take (i := 15) (v := .tuple #[.agg #[.int .i64 k9, .bool false, .int .i64 n9, .string t9, .string ⟨#[]⟩, .slice p6 q9.length c6], .int .i64 e9]) rfl (by kernel_rfl) (by kernel_rfl) (by kernel_rfl) (fun _ _ _ h => h) (Or.inl ⟨by rfl, fun W _ => by go_simp⟩) hHeld ?_
              try simp only [Act.put, List.getElem_toArray, List.getElem_cons_succ, List.getElem_cons_zero, List.setIfInBounds_toArray, List.set_cons_zero, List.set_cons_succ]
              refine wpAnyH_take (i := 16) (v := .agg #[.int .i64 k9, .bool false, .int .i64 n9, .string t9, .string ⟨#[]⟩, .slice p6 q9.length c6]) rfl (by kernel_rfl) (by kernel_rfl) (by kernel_rfl) (fun _ _ _ h => h) (Or.inl ⟨by rfl, fun W _ => by go_simp⟩) hHeld ?_
              try simp only [Act.put, List.getElem_toArray, List.getElem_cons_succ, List.getElem_cons_zero, List.setIfInBounds_toArray, List.set_cons_zero, List.set_cons_succ]
              refine wpAnyH_take (i := 17) (v := .int .i64 e9) rfl (by kernel_rfl) (by kernel_rfl) (by kernel_rfl) (fun _ _ _ h => h) (Or.inl ⟨by rfl, fun W _ => by go_simp⟩) hHeld ?_
              try simp only [Act.put, List.getElem_toArray, List.getElem_cons_succ, List.getElem_cons_zero, List.setIfInBounds_toArray, List.set_cons_zero, List.set_cons_succ]
              refine wpAnyH_ready (rs := [19]) (by kernel_rfl) (by simp) ?_
              refine AllReadyH.cons rfl (fun K hK => ?_) AllReadyH.nil
              try rw [if_pos (by rfl)]
              refine wp_store6 (k' := k9) (b' := false) (n' := n9) (t' := t9) (x' := ⟨#[]⟩) (p' := p6) (len' := q9.length) (cap' := c6) (.tmp 9) (.tmp 69) rfl (wd.heap.size) ((six_alloc0 wd).below hb6) rfl rfl ?_
              intro w9 on9 S9
              have j9 : SC w9 := by have h := bcd; have h0 := hcd0; rw [HSC.out] at h h0 ⊢; exact below_only h on9 h0.size h.size
              refine hK.out _ _ (j9) (fun hHeld2 => ?_)
              clear hK K
              have hHeld := hHeld2
              clear hHeld2
              try simp only [Act.put, List.getElem_toArray, List.getElem_cons_succ, List.getElem_cons_zero, List.setIfInBounds_toArray, List.set_cons_zero, List.set_cons_succ]
              refine wpAnyH_ready (rs := [20]) (by kernel_rfl) (by simp) ?_
              refine AllReadyH.cons rfl (fun K hK => ?_) AllReadyH.nil
              try rw [if_pos (by rfl)]
              go_simp
              refine hK.out _ _ (hHeld) (fun hHeld2 => ?_)
              clear hK K
              have hHeld := hHeld2
              clear hHeld2
              try simp only [Act.put, List.getElem_toArray, List.getElem_cons_succ, List.getElem_cons_zero, List.setIfInBounds_toArray, List.set_cons_zero, List.set_cons_succ]
              refine wpAnyH_done (by kernel_rfl) ?_ _
              replace hq6 : HeldT w9 (wd.alloc (.cells #[.int .i64 0, .bool false, .int .i64 0, .string ⟨#[]⟩, .string ⟨#[]⟩, .slice none 0 0] 28)).heap.size w6.heap.size (.slice p6 q9.length c6) q9 := HeldT.stays (fun i c a => on9.block i a (by have : (wd.alloc (.cells #[.int .i64 0, .bool false, .int .i64 0, .string ⟨#[]⟩, .string ⟨#[]⟩, .slice none 0 0] 28)).heap.size = wd.heap.size + 1 := (by simp); omega)) q9 hq6
              clear hcd0 on9 bcd hb6
              obtain ⟨en, hen⟩ : ∃ en, en = wd.heap.size := ⟨_, rfl⟩
              rw [← hen] at S9 ⊢
              clear hen
              have hcd : Below C0.heap.size C0 w9 := by have h := j9; rw [HSC.out] at h; exact h
              have JB := HCB.out w9 j9
              have S7 := HC5.out.1.below hcd
              have HQ59 : Hid (∀ W, Below w9.heap.size w9 W → HeldT W B0.heap.size w5.heap.size (.slice p5 q9.length c5) q9) := Lib.hid fun W h => HeldT.stays (fun i _ a => (h.block i (by have := hcd.size; have := HC5.out.2.2.1; omega)).trans (hcd.block i (by have := HC5.out.2.2.1; omega))) q9 HC5.out.2.1
              have HSM9 : Hid (∀ W, Below w9.heap.size w9 W → Calls Tryz.prog 18 #[.agg #[.int .i64 k9, .bool false, .int .i64 n9, .string t9, .string ⟨#[]⟩, .slice p5 q9.length c5], .agg #[.int .i64 k9, .bool false, .int .i64 n9, .string t9, .string ⟨#[]⟩, .slice p6 q9.length c6]] W fun e w' => e = .returned (.bool true) ∧ Below W.heap.size W w') := Lib.hid fun W h => by
                have := sameZAll (.mk k9 false n9 t9 ⟨#[]⟩ q9) W k9 false n9 t9 ⟨#[]⟩ q9 p5 c5 (.mk k9 false n9 t9 ⟨#[]⟩ q9) k9 false n9 t9 ⟨#[]⟩ q9 p6 c6 rfl rfl hq9 (HeldT.held q9 (HQ59.out W h)) (Held.below q9 (HeldT.held q9 hq6) h)
                rw [sameP_refl] at this
                exact this
              have HZ9 : Hid (w5.heap.size ≤ w9.heap.size) := Lib.hid (by have := hcd.size; have := HC5.out.2.2.1; omega)
              have HOV : Hid (∀ W W2, SB W → Wrote B0.heap.size w5.heap.size W W2 → SB W2.drew) := Lib.hid fun W W2 h k => by rw [HSB.out] at h ⊢; exact (k.below h (Nat.le_refl _)).drew
              have hne : (e9 != e9) = false := by simp
              clear hHeld j9 hcd hq6
              go_upto_region 15 with (first
                | ((with_reducible refine wpList_load6g (.tmp 7) ec S7 ?_ ?_ ?_ ?_); rfl; rfl; rfl)
                | ((with_reducible refine wpList_load6g (.tmp 9) en S9 ?_ ?_ ?_ ?_); rfl; rfl; rfl)
                | (go_at_call 18; (with_reducible refine (HSM9.out _ (Below.refl _ _)).mono ?_); rintro e w7 ⟨rfl, hb7⟩; have T7 := S7.below hb7; have HW := Lib.hid (And.intro (HQ59.out w7 hb7) (And.intro (Nat.le_trans HZ9.out hb7.size) (HB.out.st _ _ JB hb7))); clear hb7))
              have hov := overValue k9 false n9 t9 ⟨#[]⟩ q9 p5 c5 B0.heap.size w5.heap.size w7 hq9 HW.out.1 HW.out.2.1
              unfold OverPost at hov
              go_upto_region 16 with (first
                | ((with_reducible refine wpList_load6 (.tmp 7) ec T7 ?_ ?_ ?_ ?_); rfl; rfl; rfl)
                | (go_at_call 27; (with_reducible refine hov.mono ?_); rintro e w8 ⟨rfl, hw8⟩; have J8 : SB w8.drew := HOV.out _ _ HW.out.2.2 hw8; clear hw8))
              clear S7 T7 S9 JB hov HSM9 HQ59 HZ9 HOV HW
              have HRo1 : Hid (∀ W, SB W → W.rangeAt g (off + j * 6) [.int .i64 k, .bool b, .int .i64 m, .string t, .string x, .slice p q.length cp]) := Lib.hid fun W h => (HB.out.o1 W h).range
              have HRo2 : Hid (∀ W, SB W → W.rangeAt g (off + (j + 1) * 6) [.int .i64 k2, .bool b2, .int .i64 m2, .string t2, .string x2, .slice p2 q2.length cp2]) := Lib.hid fun W h => (HB.out.o2 W h).range
              have HM1 : Hid (∀ W, SB W → Calls Tryz.prog 18 #[.agg #[.int .i64 k, .bool b, .int .i64 m, .string t, .string x, .slice pa q.length ca], .agg #[.int .i64 k, .bool b, .int .i64 m, .string t, .string x, .slice p q.length cp]] W fun e w' => e = .returned (.bool true) ∧ Below W.heap.size W w') := Lib.hid fun W h => by
                have := sameZAll (.mk k b m t x q) W k b m t x q pa ca (.mk k b m t x q) k b m t x q p cp rfl rfl HO1.out.hf.hn (HB.out.ha W h) (HB.out.o1 W h).hl
                rw [sameP_refl] at this
                exact this
              have HM2 : Hid (∀ W, SB W → Calls Tryz.prog 18 #[.agg #[.int .i64 k2, .bool b2, .int .i64 m2, .string t2, .string x2, .slice pb q2.length cb], .agg #[.int .i64 k2, .bool b2, .int .i64 m2, .string t2, .string x2, .slice p2 q2.length cp2]] W fun e w' => e = .returned (.bool true) ∧ Below W.heap.size W w') := Lib.hid fun W h => by
                have := sameZAll (.mk k2 b2 m2 t2 x2 q2) W k2 b2 m2 t2 x2 q2 pb cb (.mk k2 b2 m2 t2 x2 q2) k2 b2 m2 t2 x2 q2 p2 cp2 rfl rfl HO2.out.hf.hn (HB.out.hb W h) (HB.out.o2 W h).hl
                rw [sameP_refl] at this
                exact this
              refine wp_region_held_drew (S := SB) (by kernel_rfl) J8 (fun hHeld => ?_)
              clear J8
              refine wpAnyH_take (i := 0) rfl (by kernel_rfl) (by kernel_rfl) (by kernel_rfl) (fun _ _ _ h => h) (yields6 (by rfl) (.tmp 5) rfl ea rfl (fun _ h => HB.out.s4 _ h)) hHeld ?_
              try simp only [Act.put, List.getElem_toArray, List.getElem_cons_succ, List.getElem_cons_zero, List.setIfInBounds_toArray, List.set_cons_zero, List.set_cons_succ]
              refine wpAnyH_take (i := 1) (v := (.pointer (some ⟨w.heap.size, 0, none⟩))) rfl (by kernel_rfl) (by kernel_rfl) (by kernel_rfl) (fun _ _ _ h => h) (Or.inl ⟨by rfl, fun W _ => by go_simp⟩) hHeld ?_
              try simp only [Act.put, List.getElem_toArray, List.getElem_cons_succ, List.getElem_cons_zero, List.setIfInBounds_toArray, List.set_cons_zero, List.set_cons_succ]
              refine wpAnyH_take (i := 2) (v := (.slice (some ⟨g, off, none⟩) n cap)) rfl (by kernel_rfl) (by kernel_rfl) (by kernel_rfl) (fun _ _ _ h => h) (Or.inl ⟨by rfl, fun W h => by have c := (HB.out.sv _ h).cell; go_simp⟩) hHeld ?_
              try simp only [Act.put, List.getElem_toArray, List.getElem_cons_succ, List.getElem_cons_zero, List.setIfInBounds_toArray, List.set_cons_zero, List.set_cons_succ]
              refine wpAnyH_take (i := 3) (v := (.int .i64 ((j : Int) + 1))) rfl (by kernel_rfl) (by kernel_rfl) (by kernel_rfl) (fun _ _ _ h => h) (Or.inl ⟨by rfl, fun W _ => by go_simp⟩) hHeld ?_
              try simp only [Act.put, List.getElem_toArray, List.getElem_cons_succ, List.getElem_cons_zero, List.setIfInBounds_toArray, List.set_cons_zero, List.set_cons_succ]
              refine wpAnyH_take (i := 4) (v := (.int .i64 j)) rfl (by kernel_rfl) (by kernel_rfl) (by kernel_rfl) (fun _ _ _ h => h) (Or.inl ⟨by rfl, fun W _ => by go_simp; rw [IntKind.wrap_i64]; omega⟩) hHeld ?_
              try simp only [Act.put, List.getElem_toArray, List.getElem_cons_succ, List.getElem_cons_zero, List.setIfInBounds_toArray, List.set_cons_zero, List.set_cons_succ]
              refine wpAnyH_take (i := 5) (v := (.pointer (some ⟨g, off + j * 6, none⟩))) rfl (by kernel_rfl) (by kernel_rfl) (by kernel_rfl) (fun _ _ _ h => h) (Or.inl ⟨by rfl, fun W _ => by go_simp; intro h; exfalso; omega⟩) hHeld ?_
              try simp only [Act.put, List.getElem_toArray, List.getElem_cons_succ, List.getElem_cons_zero, List.setIfInBounds_toArray, List.set_cons_zero, List.set_cons_succ]
              refine wpAnyH_take (i := 6) rfl (by kernel_rfl) (by kernel_rfl) (by kernel_rfl) (fun _ _ _ h => h) (yieldsIf_load_mid (by rfl) 28 (.tmp 87) rfl g (off + j * 6) rfl _ _ (fun W h => HRo1.out W h) Tryz.underlying28 rfl info28) hHeld ?_
              try simp only [Act.put, List.getElem_toArray, List.getElem_cons_succ, List.getElem_cons_zero, List.setIfInBounds_toArray, List.set_cons_zero, List.set_cons_succ]
              refine wpAnyH_ready (rs := [7]) (by kernel_rfl) (by simp) ?_
              refine AllReadyH.cons rfl (fun K hK => ?_) AllReadyH.nil
              rw [if_pos (by rfl)]
              go_simp
              refine (HM1.out _ hHeld).mono ?_
              rintro e w3 ⟨rfl, hb3⟩
              refine hK.out _ _ (HB.out.st _ _ hHeld hb3) (fun hHeld2 => ?_)
              clear hK K hb3 hHeld
              have hHeld := hHeld2
              clear hHeld2
              try simp only [Act.put, List.getElem_toArray, List.getElem_cons_succ, List.getElem_cons_zero, List.setIfInBounds_toArray, List.set_cons_zero, List.set_cons_succ]
              refine wpAnyH_take (i := 8) (v := (.bool false)) rfl (by kernel_rfl) (by kernel_rfl) (by kernel_rfl) (fun _ _ _ h => h) (Or.inl ⟨by rfl, fun W _ => by go_simp⟩) hHeld ?_
              try simp only [Act.put, List.getElem_toArray, List.getElem_cons_succ, List.getElem_cons_zero, List.setIfInBounds_toArray, List.set_cons_zero, List.set_cons_succ]
              refine wpAnyH_take (i := 9) (v := (.bool false)) rfl (by kernel_rfl) (by kernel_rfl) (by kernel_rfl) (fun _ _ _ h => h) (Or.inl ⟨by rfl, fun W _ => by go_simp⟩) hHeld ?_
              try simp only [Act.put, List.getElem_toArray, List.getElem_cons_succ, List.getElem_cons_zero, List.setIfInBounds_toArray, List.set_cons_zero, List.set_cons_succ]
              refine wpAnyH_take (i := 10) rfl (by kernel_rfl) (by kernel_rfl) (by kernel_rfl) (fun _ _ _ h => h) (yields6 (by rfl) (.tmp 6) rfl eb rfl (fun _ h => HB.out.s6 _ h)) hHeld ?_
              try simp only [Act.put, List.getElem_toArray, List.getElem_cons_succ, List.getElem_cons_zero, List.setIfInBounds_toArray, List.set_cons_zero, List.set_cons_succ]
              refine wpAnyH_take (i := 11) (v := (.pointer (some ⟨w.heap.size, 0, none⟩))) rfl (by kernel_rfl) (by kernel_rfl) (by kernel_rfl) (fun _ _ _ h => h) (Or.inl ⟨by rfl, fun W _ => by go_simp⟩) hHeld ?_
              try simp only [Act.put, List.getElem_toArray, List.getElem_cons_succ, List.getElem_cons_zero, List.setIfInBounds_toArray, List.set_cons_zero, List.set_cons_succ]
              refine wpAnyH_take (i := 12) (v := (.slice (some ⟨g, off, none⟩) n cap)) rfl (by kernel_rfl) (by kernel_rfl) (by kernel_rfl) (fun _ _ _ h => h) (Or.inl ⟨by rfl, fun W h => by have c := (HB.out.sv _ h).cell; go_simp⟩) hHeld ?_
              try simp only [Act.put, List.getElem_toArray, List.getElem_cons_succ, List.getElem_cons_zero, List.setIfInBounds_toArray, List.set_cons_zero, List.set_cons_succ]
              refine wpAnyH_take (i := 13) (v := (.int .i64 ((j : Int) + 1))) rfl (by kernel_rfl) (by kernel_rfl) (by kernel_rfl) (fun _ _ _ h => h) (Or.inl ⟨by rfl, fun W _ => by go_simp⟩) hHeld ?_
              try simp only [Act.put, List.getElem_toArray, List.getElem_cons_succ, List.getElem_cons_zero, List.setIfInBounds_toArray, List.set_cons_zero, List.set_cons_succ]
              refine wpAnyH_take (i := 14) (v := (.pointer (some ⟨g, off + (j + 1) * 6, none⟩))) rfl (by kernel_rfl) (by kernel_rfl) (by kernel_rfl) (fun _ _ _ h => h) (Or.inl ⟨by rfl, fun W _ => by go_simp; intro h; exfalso; omega⟩) hHeld ?_
              try simp only [Act.put, List.getElem_toArray, List.getElem_cons_succ, List.getElem_cons_zero, List.setIfInBounds_toArray, List.set_cons_zero, List.set_cons_succ]
              refine wpAnyH_take (i := 15) rfl (by kernel_rfl) (by kernel_rfl) (by kernel_rfl) (fun _ _ _ h => h) (yieldsIf_load_mid (by rfl) 28 (.tmp 96) rfl g (off + (j + 1) * 6) rfl _ _ (fun W h => HRo2.out W h) Tryz.underlying28 rfl info28) hHeld ?_
              try simp only [Act.put, List.getElem_toArray, List.getElem_cons_succ, List.getElem_cons_zero, List.setIfInBounds_toArray, List.set_cons_zero, List.set_cons_succ]
              refine wpAnyH_ready (rs := [16]) (by kernel_rfl) (by simp) ?_
              refine AllReadyH.cons rfl (fun K hK => ?_) AllReadyH.nil
              rw [if_pos (by rfl)]
              go_simp
              refine (HM2.out _ hHeld).mono ?_
              rintro e w3 ⟨rfl, hb3⟩
              refine hK.out _ _ (HB.out.st _ _ hHeld hb3) (fun hHeld2 => ?_)
              clear hK K hb3 hHeld
              have hHeld := hHeld2
              clear hHeld2
              try simp only [Act.put, List.getElem_toArray, List.getElem_cons_succ, List.getElem_cons_zero, List.setIfInBounds_toArray, List.set_cons_zero, List.set_cons_succ]
              refine wpAnyH_take (i := 17) (v := (.bool false)) rfl (by kernel_rfl) (by kernel_rfl) (by kernel_rfl) (fun _ _ _ h => h) (Or.inl ⟨by rfl, fun W _ => by go_simp⟩) hHeld ?_
              try simp only [Act.put, List.getElem_toArray, List.getElem_cons_succ, List.getElem_cons_zero, List.setIfInBounds_toArray, List.set_cons_zero, List.set_cons_succ]
              refine wpAnyH_take (i := 18) (v := (.bool false)) rfl (by kernel_rfl) (by kernel_rfl) (by kernel_rfl) (fun _ _ _ h => h) (Or.inl ⟨by rfl, fun W _ => by go_simp⟩) hHeld ?_
              try simp only [Act.put, List.getElem_toArray, List.getElem_cons_succ, List.getElem_cons_zero, List.setIfInBounds_toArray, List.set_cons_zero, List.set_cons_succ]
              refine wpAnyH_done (by kernel_rfl) ?_ _
              have I9 := HB.out.sv _ hHeld
              clear hHeld
              go_wp2_with fail
              go_roundg (gk - 1)
              case measure => omega
              case rel => exact ⟨o + 1, by omega, by omega, by go_num, I9⟩
          · go_wp2_with fail
            go_roundg (n + 1 - (j + 1))
            case measure => omega
            case rel => exact ⟨j + 1, by omega, by omega, by go_num, I⟩
      · go_wp2_with (go_at_call 11; (with_reducible refine (hwk _ I.bel).mono ?_); rintro e w' ⟨rfl, hb⟩; replace I := I.step hb)
        go_ret
        exact ⟨rfl, I.bel⟩
    · go_wp2_with (go_at_call 11; (with_reducible refine (hwk _ I.bel).mono ?_); rintro e w' ⟨rfl, hb⟩; replace I := I.step hb)
      go_ret
      exact ⟨rfl, I.bel⟩
end Go.Proofs.YtoifjjgakblhhaaGreatDoor
